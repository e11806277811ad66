/-
  PLAIN MATHEMATICS of the 32-bit view of a block (layer 22): the type in effect, the view. No program.
-/
import Derived.Test.YtgbojkbhkjameaaVdM
import Derived.Test.YtgbojkbhkjameaaLpB
namespace Go.Proofs.Ytgbojkbhkjameaa
open Go.RowKit
set_option linter.unusedVariables false
set_option maxRecDepth 100000
/-- the number of the type in effect: of the last transition not later than t, 0 before the first. -/
def inE (b : Bk) (t : Int) : Int := (((b.ti.zip b.ix).filter (fun p => decide (p.1 ≤ t))).getLast?.map (·.2)).getD 0
/-- 0 and k exchanged. -/
def other (i k : Nat) : Nat := if i = 0 then k else if i = k then 0 else i
theorem other_other (i k : Nat) : other (other i k) k = i := by
  unfold other
  by_cases h0 : i = 0
  · subst h0
    by_cases hk : k = 0
    · simp [hk]
    · simp [hk]
  · by_cases hk : i = k
    · subst hk; simp [h0]
    · simp [h0, hk]
theorem other_lt {i k n : Nat} (hi : i < n) (hk : k < n) : other i k < n := by
  unfold other
  split
  · exact hk
  · split <;> omega
theorem other_same (i : Nat) : other i 0 = i := by
  unfold other
  by_cases h : i = 0 <;> simp [h]
def in32 (t : Int) : Bool := decide (-2147483648 ≤ t) && decide (t ≤ 2147483647)
/-- a list with its places 0 and k exchanged. -/
def swp {α : Type} (l : List α) (k : Nat) (d : α) : List α := (List.range l.length).map fun i => (l[other i k]?).getD d
theorem swp_len {α : Type} (l : List α) (k : Nat) (d : α) : (swp l k d).length = l.length := by simp [swp]
theorem swp_at {α : Type} {l : List α} {k : Nat} (d : α) {i : Nat} (hi : i < l.length) (hk : k < l.length) : (swp l k d)[i]? = l[other i k]? := by
  unfold swp
  rw [List.getElem?_map, List.getElem?_range hi, Option.map_some, List.getElem?_eq_getElem (other_lt hi hk)]
  rfl
theorem swp_0 {α : Type} (l : List α) (d : α) : swp l 0 d = l := by
  apply List.ext_getElem?
  intro i
  by_cases hi : i < l.length
  · rw [swp_at d hi (by omega), other_same]
  · rw [List.getElem?_eq_none (by rw [swp_len]; omega), List.getElem?_eq_none (by omega)]
/-- the view. -/
def viewB (b : Bk) : Bk :=
  let k := (inE b (-2147483649)).toNat
  ⟨b.ti.filter in32, ((b.ti.zip b.ix).filter (fun p => in32 p.1)).map (fun p => ((other p.2.toNat k : Nat) : Int)), swp b.ty k (0, false, 0), b.ch, b.lp.filter (fun t => decide (t.1 ≤ 2147483647)), swp b.sd k false, swp b.ut k false⟩
theorem asc_pw {l : List Int} : Asc l ↔ l.Pairwise (· < ·) := by
  induction l with
  | nil => exact ⟨fun _ => .nil, fun _ i h => by simp at h⟩
  | cons a t ih =>
    constructor
    · intro h
      have ht : Asc t := fun i hi => by
        have := h (i + 1) (by simp; omega)
        simpa using this
      have hp := ih.1 ht
      refine List.pairwise_cons.2 ⟨fun x hx => ?_, hp⟩
      cases t with
      | nil => simp at hx
      | cons b s =>
        have hab : a < b := by have := h 0 (by simp); simpa using this
        rcases List.mem_cons.1 hx with rfl | hx
        · exact hab
        · have := (List.pairwise_cons.1 hp).1 x hx
          omega
    · intro h i hi
      obtain ⟨h1, h2⟩ := List.pairwise_cons.1 h
      cases i with
      | zero =>
        cases t with
        | nil => simp at hi
        | cons b s => simpa using h1 b (by simp)
      | succ j =>
        have := ih.2 h2 j (by simp at hi; omega)
        simpa using this
theorem asc_filter {l : List Int} (h : Asc l) (p : Int → Bool) : Asc (l.filter p) := asc_pw.2 ((asc_pw.1 h).filter p)
theorem view_ti {b : Bk} {four : Bool} (h : BOk b four 8) : fT 4 (viewB b).ti = true ∧ desc (viewB b).ti = -1 := by
  refine ⟨?_, desc_asc (asc_filter (asc_of_desc h.asc) _)⟩
  unfold fT
  rw [List.all_eq_true]
  intro v hv
  have := (List.mem_filter.1 hv).2
  unfold in32 at this
  simp only [Bool.and_eq_true, decide_eq_true_eq] at this
  unfold fitsB
  simp
  omega
theorem view_len {b : Bk} {four : Bool} (h : BOk b four 8) : (viewB b).ix.length = (viewB b).ti.length := by
  have hc := h.cnt
  unfold cntOk at hc
  simp only [Bool.and_eq_true, decide_eq_true_eq] at hc
  have hl : b.ix.length = b.ti.length := hc.1.1.1.1
  unfold viewB
  dsimp only
  rw [List.length_map]
  clear hc h
  generalize b.ix = xs at *
  generalize b.ti = ts at *
  induction ts generalizing xs with
  | nil => simp
  | cons a t ih =>
    cases xs with
    | nil => simp at hl
    | cons x r =>
      have := ih r (by simpa using hl)
      rw [List.zip_cons_cons, List.filter_cons, List.filter_cons]
      by_cases ha : in32 a = true
      · rw [if_pos ha, if_pos ha, List.length_cons, List.length_cons, this]
      · rw [if_neg ha, if_neg ha, this]
theorem BOk.cnts {b : Bk} {four : Bool} {k : Nat} (h : BOk b four k) : b.ix.length = b.ti.length ∧ 0 < b.ty.length ∧ 0 < b.ch.length ∧ (b.sd.length = 0 ∨ b.sd.length = b.ty.length) ∧ (b.ut.length = 0 ∨ b.ut.length = b.ty.length) := by
  have hc := h.cnt
  unfold cntOk at hc
  simp only [Bool.and_eq_true, Bool.or_eq_true, Bool.not_eq_true', decide_eq_true_eq, decide_eq_false_iff_not] at hc
  obtain ⟨⟨⟨⟨h1, h2⟩, h3⟩, h4⟩, h5⟩ := hc
  exact ⟨h1, by omega, by omega, h4, h5⟩
/-- the type in effect is there. -/
theorem inE_bd {b : Bk} {four : Bool} {k : Nat} (h : BOk b four k) (hb : b.ok) (t : Int) : 0 ≤ inE b t ∧ (inE b t).toNat < b.ty.length := by
  have hn := h.cnts.2.1
  unfold inE
  cases hg : ((b.ti.zip b.ix).filter (fun p => decide (p.1 ≤ t))).getLast? with
  | none => simp; exact hn
  | some p =>
    have hm := List.mem_of_getLast? hg
    have hx : p.2 ∈ b.ix := (List.of_mem_zip (List.mem_filter.1 hm).1).2
    have h0 := hb.ix.mem _ hx
    have h1 := List.all_eq_true.1 h.ix _ hx
    simp at h1 ⊢
    omega
theorem swp_mem {α : Type} {l : List α} {k : Nat} {d : α} (hk : k < l.length ∨ l = []) {x : α} (hx : x ∈ swp l k d) : x ∈ l := by
  rcases hk with hk | rfl
  · unfold swp at hx
    obtain ⟨i, hi, rfl⟩ := List.mem_map.1 hx
    have hi' := List.mem_range.1 hi
    rw [List.getElem?_eq_getElem (other_lt hi' hk)]
    exact List.getElem_mem _
  · simp [swp] at hx
theorem bg_swp {l : List Bool} {k : Nat} (hk : k < l.length ∨ l = []) {i : Nat} (hi : i < l.length) : bg (swp l k false) i = bg l (other i k) := by
  rcases hk with hk | rfl
  · unfold bg
    rw [swp_at false hi hk]
  · simp at hi
theorem filter_mono {α : Type} {p : α → Bool} : ∀ {l : List α}, l.Pairwise (fun a b => p b = true → p a = true) → l.filter p = l.takeWhile p
  | [], _ => rfl
  | a :: t, h => by
    obtain ⟨h1, h2⟩ := List.pairwise_cons.1 h
    rw [List.filter_cons, List.takeWhile_cons]
    by_cases ha : p a = true
    · rw [if_pos ha, if_pos ha, filter_mono h2]
    · rw [if_neg ha, if_neg ha]
      rw [List.filter_eq_nil_iff]
      exact fun x hx hp => ha (h1 x hx hp)
theorem tw_is_take {α : Type} (p : α → Bool) : ∀ l : List α, l.takeWhile p = l.take (l.takeWhile p).length
  | [] => rfl
  | a :: t => by
    rw [List.takeWhile_cons]
    split
    · rw [List.length_cons, List.take_succ_cons, ← tw_is_take p t]
    · rfl
theorem lp_at {ts : List LP} {i : Nat} (hi : i < ts.length) : (ts[i]).1 = la ts i := by unfold la; rw [List.getElem?_eq_getElem hi]; rfl
theorem lp_pos {ts : List LP} {four : Bool} (h : vL ts four = true) {t : LP} (ht : t ∈ ts) : 0 ≤ t.1 := by
  obtain ⟨i, hi, rfl⟩ := List.getElem_of_mem ht
  have h4 : vL ts true = true := by cases four; exact vL_34 h; exact h
  have h0 := vL_at h (show 0 < ts.length by omega)
  have : 0 ≤ la ts 0 := by
    simp only [okL] at h0
    simp at h0
    omega
  rw [lp_at hi]
  have := la_mono h4 (Nat.zero_le i) hi
  omega
/-- the view of a valid block is valid with 4-byte times. -/
theorem view_ok {b : Bk} {four : Bool} (h : BOk b four 8) (hb : b.ok) : BOk (viewB b) four 4 := by
  obtain ⟨c1, c2, c3, c4, c5⟩ := h.cnts
  obtain ⟨k0, kb⟩ := inE_bd h hb (-2147483649)
  have hvl := view_len h
  have hti := view_ti h
  have ksd : (inE b (-2147483649)).toNat < b.sd.length ∨ b.sd = [] := by
    rcases c4 with c | c
    · exact .inr (List.length_eq_zero_iff.1 c)
    · exact .inl (by omega)
  have kut : (inE b (-2147483649)).toNat < b.ut.length ∨ b.ut = [] := by
    rcases c5 with c | c
    · exact .inr (List.length_eq_zero_iff.1 c)
    · exact .inl (by omega)
  have h4 : vL b.lp true = true := by cases four; exact vL_34 h.lp; exact h.lp
  have hf : b.lp.filter (fun t => decide (t.1 ≤ 2147483647)) = b.lp.take (b.lp.takeWhile (fun t => decide (t.1 ≤ 2147483647))).length := by
    rw [filter_mono, ← tw_is_take]
    rw [List.pairwise_iff_getElem]
    intro i j hi hj hij hp
    rw [decide_eq_true_iff] at hp ⊢
    rw [lp_at hj] at hp
    rw [lp_at hi]
    have := la_mono h4 (Nat.le_of_lt hij) hj
    omega
  refine ⟨?_, hti.1, ?_, hti.2, ?_, ?_, h.ch, ?_, ?_⟩
  · unfold cntOk
    rw [hvl]
    unfold viewB
    dsimp only
    rw [swp_len, swp_len, swp_len]
    simp only [decide_true, Bool.true_and, Bool.and_eq_true, Bool.or_eq_true, Bool.not_eq_true', decide_eq_true_eq, decide_eq_false_iff_not]
    exact ⟨⟨⟨by omega, by omega⟩, c4⟩, c5⟩
  · unfold lfit viewB
    dsimp only
    rw [List.all_eq_true]
    intro t ht
    obtain ⟨t1, t2⟩ := List.mem_filter.1 ht
    have := lp_pos h.lp t1
    simp at t2
    unfold fitsB
    simp
    omega
  · unfold ixOk viewB
    dsimp only
    rw [List.all_eq_true]
    intro x hx
    obtain ⟨p, hp, rfl⟩ := List.mem_map.1 hx
    have hm := (List.of_mem_zip (List.mem_filter.1 hp).1).2
    have h0 := hb.ix.mem _ hm
    have h1 := List.all_eq_true.1 h.ix _ hm
    simp at h1
    rw [swp_len, decide_eq_true_iff]
    have := other_lt (i := p.2.toNat) (k := (inE b (-2147483649)).toNat) (n := b.ty.length) (by omega) kb
    omega
  · have hc := h.ty
    unfold chk at hc ⊢
    split at hc
    · cases hc
    · split at hc
      · cases hc
      · rename_i z1 z2
        rw [if_neg, if_neg]
        · intro q
          obtain ⟨x, hx, hq⟩ := List.any_eq_true.1 q
          exact z2 (List.any_eq_true.2 ⟨x, swp_mem (.inl kb) hx, hq⟩)
        · intro q
          obtain ⟨x, hx, hq⟩ := List.any_eq_true.1 q
          exact z1 (List.any_eq_true.2 ⟨x, swp_mem (.inl kb) hx, hq⟩)
  · show vL (b.lp.filter (fun t => decide (t.1 ≤ 2147483647))) four = true
    rw [hf]
    by_cases hk : (b.lp.takeWhile (fun t => decide (t.1 ≤ 2147483647))).length < b.lp.length
    · exact vL_take' h.lp hk
    · rw [List.take_of_length_le (by omega)]
      exact h.lp
  · show cn (swp b.sd (inE b (-2147483649)).toNat false) (swp b.ut (inE b (-2147483649)).toNat false) = true
    have hcn := (cn_iff _ _).1 h.cn
    refine (cn_iff _ _).2 fun i hi => ?_
    have hiu : i < b.ut.length := by
      rcases Nat.lt_or_ge i b.ut.length with q | q
      · exact q
      · rw [bg_out (by rw [swp_len]; exact q)] at hi; cases hi
    rw [bg_swp kut hiu] at hi
    have hs := hcn _ hi
    have his : i < b.sd.length := by
      rcases c4 with c | c
      · rw [bg_out (by omega)] at hs; cases hs
      · omega
    rw [bg_swp ksd his]
    exact hs
theorem last_filter {α : Type} {p : α → Bool} {l : List α} {x : α} (h : l.getLast? = some x) (hp : p x = true) : (l.filter p).getLast? = some x := by
  obtain ⟨i, rfl⟩ := List.getLast?_eq_some_iff.1 h
  rw [List.filter_append, List.filter_cons, if_pos hp, List.filter_nil]
  simp
theorem zip_fst {a b : List Int} (h : b.length = a.length) : (a.zip b).map (·.1) = a := List.map_fst_zip (by omega)
/-- the view's transitions and types, pair by pair. -/
theorem view_zip {b : Bk} (hl : b.ix.length = b.ti.length) : (viewB b).ti.zip (viewB b).ix = ((b.ti.zip b.ix).filter (fun p => in32 p.1)).map (fun p => (p.1, ((other p.2.toNat (inE b (-2147483649)).toNat : Nat) : Int))) := by
  unfold viewB
  dsimp only
  generalize (inE b (-2147483649)).toNat = k
  generalize b.ix = xs at *
  generalize b.ti = ts at *
  induction ts generalizing xs with
  | nil => simp
  | cons a t ih =>
    cases xs with
    | nil => simp at hl
    | cons x r =>
      have := ih r (by simpa using hl)
      rw [List.zip_cons_cons, List.filter_cons, List.filter_cons]
      by_cases ha : in32 a = true
      · rw [if_pos ha, if_pos ha, List.map_cons, List.map_cons, List.zip_cons_cons, this]
      · rw [if_neg ha, if_neg ha, this]
/-- at a 32-bit time the view's type in effect is the block's, 0 and k exchanged. -/
theorem view_in {b : Bk} {four : Bool} (h : BOk b four 8) (hb : b.ok) {t : Int} (t0 : -2147483648 ≤ t) (t1 : t ≤ 2147483647) : inE (viewB b) t = ((other (inE b t).toNat (inE b (-2147483649)).toNat : Nat) : Int) := by
  have hl := h.cnts.1
  have hv := view_zip hl
  have hpw : (b.ti.zip b.ix).Pairwise (fun p q => p.1 < q.1) := by
    have := asc_pw.1 (asc_of_desc h.asc)
    rw [← zip_fst hl, List.pairwise_map] at this
    exact this
  have e1 : inE (viewB b) t = (((((b.ti.zip b.ix).filter (fun p => decide (p.1 ≤ t))).filter (fun p => in32 p.1)).getLast?.map (fun p => ((other p.2.toNat (inE b (-2147483649)).toNat : Nat) : Int)))).getD 0 := by
    conv => lhs; unfold inE
    rw [hv, List.filter_map, List.getLast?_map, List.filter_filter, List.filter_filter, Option.map_map]
    have : (fun a : Int × Int => ((fun p : Int × Int => decide (p.1 ≤ t)) ∘ fun p : Int × Int => (p.1, ((other p.2.toNat (inE b (-2147483649)).toNat : Nat) : Int))) a && in32 a.1) = fun a => in32 a.1 && decide (a.1 ≤ t) := by
      funext a
      simp [Bool.and_comm]
    rw [this]
    rfl
  rw [e1]
  have e2 : inE b t = (((b.ti.zip b.ix).filter (fun p => decide (p.1 ≤ t))).getLast?.map (·.2)).getD 0 := rfl
  have e3 : inE b (-2147483649) = (((b.ti.zip b.ix).filter (fun p => decide (p.1 ≤ -2147483649))).getLast?.map (·.2)).getD 0 := rfl
  have hpl : ((b.ti.zip b.ix).filter (fun p => decide (p.1 ≤ t))).Pairwise (fun p q => p.1 < q.1) := hpw.filter _
  have hsub : (b.ti.zip b.ix).filter (fun p => decide (p.1 ≤ -2147483649)) = ((b.ti.zip b.ix).filter (fun p => decide (p.1 ≤ t))).filter (fun p => decide (p.1 ≤ -2147483649)) := by
    rw [List.filter_filter]
    refine List.filter_congr fun p _ => ?_
    by_cases z : p.1 ≤ -2147483649
    · have : p.1 ≤ t := by omega
      simp [z, this]
    · simp [z]
  have hle : ∀ p ∈ (b.ti.zip b.ix).filter (fun p => decide (p.1 ≤ t)), p.1 ≤ t := fun p hp => by simpa using (List.mem_filter.1 hp).2
  rw [hsub] at e3
  generalize (b.ti.zip b.ix).filter (fun p => decide (p.1 ≤ t)) = L at *
  cases hL : L.getLast? with
  | none =>
    have : L = [] := List.getLast?_eq_none_iff.1 hL
    subst this
    rw [e3, e2]
    rfl
  | some x =>
    rw [hL] at e2
    have ex : inE b t = x.2 := e2
    have hx := hle x (List.mem_of_getLast? hL)
    by_cases hx0 : -2147483648 ≤ x.1
    · have hin : in32 x.1 = true := by unfold in32; simp; omega
      rw [last_filter (p := fun p => in32 p.1) hL hin, ex]
      rfl
    · obtain ⟨i, rfl⟩ := List.getLast?_eq_some_iff.1 hL
      have hall : ∀ p ∈ i ++ [x], p.1 ≤ -2147483649 := fun p hp => by
        rcases List.mem_append.1 hp with hp | hp
        · have := (List.pairwise_append.1 hpl).2.2 p hp x (by simp)
          omega
        · rcases List.mem_singleton.1 hp with rfl
          omega
      have f1 : (i ++ [x]).filter (fun p => in32 p.1) = [] := List.filter_eq_nil_iff.2 fun p hp hq => by
        have := hall p hp
        unfold in32 at hq
        simp at hq
        omega
      have f2 : (i ++ [x]).filter (fun p => decide (p.1 ≤ -2147483649)) = i ++ [x] := List.filter_eq_self.2 fun p hp => by simpa using hall p hp
      rw [f2, hL] at e3
      have ek : inE b (-2147483649) = x.2 := e3
      rw [f1, ex, ek]
      have : other x.2.toNat x.2.toNat = 0 := by
        unfold other
        by_cases z : x.2.toNat = 0 <;> simp [z]
      rw [this]
      rfl
theorem inE_first {b : Bk} {t : Int} (hl : b.ix.length = b.ti.length) (h : ∀ x ∈ b.ti, t < x) : inE b t = 0 := by
  unfold inE
  rw [List.filter_eq_nil_iff.2]
  · rfl
  · intro p hp hq
    have := h _ (List.of_mem_zip hp).1
    simp at hq
    omega
/-- a block of 32-bit times is its own view. -/
theorem view_narrow {b : Bk} (hb : b.ok) (hl : b.ix.length = b.ti.length) (h1 : ∀ x ∈ b.ti, in32 x = true) (h2 : ∀ t ∈ b.lp, t.1 ≤ 2147483647) : viewB b = b := by
  have hk : inE b (-2147483649) = 0 := inE_first hl fun x hx => by
    have := h1 x hx
    unfold in32 at this
    simp at this
    omega
  have hti : b.ti.filter in32 = b.ti := List.filter_eq_self.2 h1
  have hlp : b.lp.filter (fun t => decide (t.1 ≤ 2147483647)) = b.lp := List.filter_eq_self.2 fun t ht => by simpa using h2 t ht
  have hix : ((b.ti.zip b.ix).filter (fun p => in32 p.1)).map (fun p => ((other p.2.toNat 0 : Nat) : Int)) = b.ix := by
    rw [List.filter_eq_self.2 fun p hp => h1 _ (List.of_mem_zip hp).1]
    have : ((b.ti.zip b.ix).map (·.2)) = b.ix := List.map_snd_zip (by omega)
    conv => rhs; rw [← this]
    refine List.map_congr_left fun p hp => ?_
    have := hb.ix.mem _ (List.of_mem_zip hp).2
    rw [other_same]
    omega
  unfold viewB
  rw [hk]
  dsimp only
  rw [hti, hlp]
  simp only [Int.toNat_zero]
  rw [hix, swp_0, swp_0, swp_0]
theorem inE_byte {b : Bk} (hb : b.ok) (t : Int) : 0 ≤ inE b t ∧ inE b t < 256 := by
  unfold inE
  cases hg : ((b.ti.zip b.ix).filter (fun p => decide (p.1 ≤ t))).getLast? with
  | none => simp
  | some p => exact hb.ix.mem _ (List.of_mem_zip (List.mem_filter.1 (List.mem_of_getLast? hg)).1).2
theorem view_bk {b : Bk} {four : Bool} (h : BOk b four 8) (hb : b.ok) : (viewB b).ok := by
  have kb := (inE_bd h hb (-2147483649)).2
  have k2 := inE_byte hb (-2147483649)
  refine ⟨fun v hv => hb.ti v (List.mem_filter.1 hv).1, bytes_of_mem fun x hx => ?_, fun t ht => hb.ty t (swp_mem (.inl kb) ht), hb.ch, fun t ht => hb.lp t (List.mem_filter.1 ht).1⟩
  obtain ⟨p, hp, rfl⟩ := List.mem_map.1 hx
  have := hb.ix.mem _ (List.of_mem_zip (List.mem_filter.1 hp).1).2
  unfold other
  split
  · omega
  · split <;> omega
/-- the view of a view is the view. -/
theorem view_view {b : Bk} {four : Bool} (h : BOk b four 8) (hb : b.ok) : viewB (viewB b) = viewB b :=
  view_narrow (view_bk h hb) (view_len h) (fun x hx => (List.mem_filter.1 hx).2) (fun t ht => by simpa using (List.mem_filter.1 ht).2)
/-- the type in effect where the first m transitions have come. -/
theorem inE_cut {b : Bk} {t : Int} {m : Nat} (hl : b.ix.length = b.ti.length) (hm : m ≤ b.ti.length) (h1 : ∀ i x, b.ti[i]? = some x → i < m → x ≤ t) (h2 : ∀ i x, b.ti[i]? = some x → m ≤ i → t < x) :
    inE b t = if m = 0 then 0 else (b.ix[m - 1]?).getD 0 := by
  have hz : (b.ti.zip b.ix).filter (fun p => decide (p.1 ≤ t)) = (b.ti.zip b.ix).take m := by
    conv => lhs; rw [← List.take_append_drop m (b.ti.zip b.ix)]
    rw [List.filter_append, List.filter_eq_self.2, List.filter_eq_nil_iff.2, List.append_nil]
    · intro p hp hq
      obtain ⟨i, hi, rfl⟩ := List.getElem_of_mem hp
      rw [List.getElem_drop, List.getElem_zip] at hq
      rw [List.length_drop, List.length_zip] at hi
      have := h2 (m + i) _ (List.getElem?_eq_getElem (by omega)) (by omega)
      simp at hq
      omega
    · intro p hp
      obtain ⟨i, hi, rfl⟩ := List.getElem_of_mem hp
      rw [List.length_take, List.length_zip] at hi
      rw [List.getElem_take, List.getElem_zip]
      have := h1 i _ (List.getElem?_eq_getElem (by omega)) (by omega)
      simpa using this
  unfold inE
  rw [hz]
  by_cases m0 : m = 0
  · subst m0; simp
  · rw [if_neg m0, List.getLast?_eq_getElem?, List.length_take, List.length_zip, List.getElem?_take, if_pos (by omega), show min m (min b.ti.length b.ix.length) - 1 = m - 1 by omega, List.getElem?_eq_getElem (by rw [List.length_zip]; omega), List.getElem_zip, List.getElem?_eq_getElem (by omega)]
    rfl
theorem asc_lt2 {l : List Int} (h : Asc l) {i j : Nat} {x y : Int} (hx : l[i]? = some x) (hy : l[j]? = some y) (hij : i < j) : x < y := by
  obtain ⟨hi, rfl⟩ := List.getElem?_eq_some_iff.1 hx
  obtain ⟨hj, rfl⟩ := List.getElem?_eq_some_iff.1 hy
  exact List.pairwise_iff_getElem.1 (asc_pw.1 h) i j hi hj hij
/-- at a transition: its type; just before: the one before. -/
theorem inE_at {b : Bk} {four : Bool} {k : Nat} (h : BOk b four k) {i : Nat} {x : Int} (hx : b.ti[i]? = some x) : inE b x = (b.ix[i]?).getD 0 ∧ inE b (x - 1) = if i = 0 then 0 else (b.ix[i - 1]?).getD 0 := by
  have ha := asc_of_desc h.asc
  have hi := (List.getElem?_eq_some_iff.1 hx).1
  constructor
  · have := inE_cut (b := b) (t := x) (m := i + 1) h.cnts.1 (by omega) (fun j y hy hj => by
      rcases Nat.lt_or_eq_of_le (Nat.lt_succ_iff.1 hj) with q | q
      · have := asc_lt2 ha hy hx q; omega
      · subst q; rw [hx] at hy; cases hy; omega) (fun j y hy hj => asc_lt2 ha hx hy (by omega))
    rw [if_neg (by omega), Nat.add_sub_cancel] at this
    exact this
  · refine inE_cut (b := b) (t := x - 1) (m := i) h.cnts.1 (by omega) (fun j y hy hj => ?_) (fun j y hy hj => ?_)
    · have := asc_lt2 ha hy hx hj; omega
    · rcases Nat.lt_or_eq_of_le hj with q | q
      · have := asc_lt2 ha hx hy q; omega
      · subst q; rw [hx] at hy; cases hy; omega
/-- it changes at transitions alone. -/
theorem inE_quiet {b : Bk} {t : Int} (h : ∀ x ∈ b.ti, x ≠ t) : inE b t = inE b (t - 1) := by
  unfold inE
  rw [List.filter_congr (q := fun p => decide (p.1 ≤ t - 1))]
  intro p hp
  have := h _ (List.of_mem_zip hp).1
  rw [decide_eq_decide]
  omega
/-- the view of the smallest block. -/
theorem view_slim : viewB ⟨[], [], [(0, false, 0)], [0], [], [], []⟩ = ⟨[], [], [(0, false, 0)], [0], [], [], []⟩ := rfl
end Go.Proofs.Ytgbojkbhkjameaa
