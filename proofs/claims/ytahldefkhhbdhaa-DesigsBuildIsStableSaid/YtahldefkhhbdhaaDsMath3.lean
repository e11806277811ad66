/-
  PLAIN MATHEMATICS of designation tables: what Build's table and indices satisfy. No program.
-/
import Derived.Test.YtahldefkhhbdhaaDsMath2
namespace Go.Proofs.Ytahldefkhhbdhaa
open Go.RowKit
set_option linter.unusedVariables false
/-- a name's bytes are allowed. -/
def okB (s : ByteArray) : Prop := ∀ x ∈ bIx s, dsA x = true
theorem dsA_nz {x : Int} (h : dsA x = true) : ¬ x = 0 := by rintro rfl; exact absurd h (by decide)
theorem snoc_at {α : Type} {l : List α} {s u : α} {i : Nat} (h : (l ++ [s])[i]? = some u) : (i < l.length ∧ l[i]? = some u) ∨ (i = l.length ∧ u = s) := by
  rcases Nat.lt_trichotomy i l.length with h1 | h1 | h1
  · rw [List.getElem?_append_left h1] at h
    exact .inl ⟨h1, h⟩
  · subst h1
    rw [List.getElem?_append_right (Nat.le_refl _), Nat.sub_self] at h
    simp at h
    exact .inr ⟨rfl, h.symm⟩
  · rw [List.getElem?_eq_none (by simp; omega)] at h
    cases h
structure BOk (l : List ByteArray) (T X : List Int) : Prop where
  len : X.length = l.length
  at_ : ∀ (i : Nat) s, l[i]? = some s → ∃ (p : Nat) (r : List Int), X[i]? = some (p : Int) ∧ T.drop p = bIx s ++ 0 :: r
  eq_ : ∀ (i j : Nat) s, l[i]? = some s → l[j]? = some s → X[i]? = X[j]?
  good : ∀ x ∈ T, dsG x = true
  last : T = [] ∨ T.getLast? = some 0
theorem bok (ss : List ByteArray) (h : ∀ s ∈ ss, okB s) : ∀ n, n ≤ ss.length → BOk (ss.take n) (bld (ss.take n)).2.1 (bld (ss.take n)).2.2 := by
  intro n
  induction n with
  | zero =>
    intro _
    refine ⟨rfl, fun i s hi => by simp at hi, fun i j s hi => by simp at hi, fun x hx => by simp [bld] at hx, .inl rfl⟩
  | succ n ih =>
    intro hn
    have hx : ss[n]? = some ss[n] := List.getElem?_eq_getElem (by omega)
    have h0 := ih (by omega)
    have hok := h ss[n] (List.getElem_mem _)
    have hseen := (bld_take ss n (by omega)).seen
    rw [take_snoc hx, bld_snoc]
    generalize ss[n] = s at *
    generalize ss.take n = l at *
    generalize hst : bld l = st at *
    obtain ⟨s1, T, X⟩ := st
    simp only at hseen h0
    subst hseen
    unfold bstep
    simp only
    cases hf : firstAt s1 X s with
    | some y =>
      simp only
      obtain ⟨k, hk, hky⟩ := firstAt_mem hf
      refine ⟨by simp [h0.len], fun i u hi => ?_, fun i j u hi hj => ?_, h0.good, h0.last⟩
      · rcases snoc_at hi with ⟨h1, h2⟩ | ⟨rfl, rfl⟩
        · obtain ⟨p, r, e1, e2⟩ := h0.at_ i u h2
          exact ⟨p, r, by rw [List.getElem?_append_left (by rw [h0.len]; exact h1)]; exact e1, e2⟩
        · obtain ⟨p, r, e1, e2⟩ := h0.at_ k u hk
          refine ⟨p, r, ?_, e2⟩
          rw [← h0.len, List.getElem?_append_right (Nat.le_refl _), Nat.sub_self]
          rw [hky] at e1
          simpa using e1
      · have key : ∀ (i : Nat) (u : ByteArray), (s1 ++ [s])[i]? = some u → ∃ i' : Nat, s1[i']? = some u ∧ (X ++ [y])[i]? = X[i']? := by
          intro i u hi
          rcases snoc_at hi with ⟨h1, h2⟩ | ⟨rfl, rfl⟩
          · exact ⟨i, h2, List.getElem?_append_left (by rw [h0.len]; exact h1)⟩
          · refine ⟨k, hk, ?_⟩
            rw [← h0.len, List.getElem?_append_right (Nat.le_refl _), Nat.sub_self, hky]
            rfl
        obtain ⟨i', a1, a2⟩ := key i u hi
        obtain ⟨j', b1, b2⟩ := key j u hj
        rw [a2, b2]
        exact h0.eq_ i' j' u a1 b1
    | none =>
      simp only
      have hnot := (firstAt_none (s := s) h0.len.symm).1 hf
      refine ⟨by simp [h0.len], fun i u hi => ?_, fun i j u hi hj => ?_, fun x hx => ?_, .inr (by rw [← List.append_assoc, List.getLast?_append]; rfl)⟩
      · rcases snoc_at hi with ⟨h1, h2⟩ | ⟨rfl, rfl⟩
        · obtain ⟨p, r, e1, e2⟩ := h0.at_ i u h2
          refine ⟨p, r ++ (bIx s ++ [0]), by rw [List.getElem?_append_left (by rw [h0.len]; exact h1)]; exact e1, ?_⟩
          have hp : p ≤ T.length := by
            rcases Nat.lt_or_ge T.length p with h | h
            · rw [List.drop_of_length_le (by omega)] at e2
              have := congrArg List.length e2
              simp at this
            · exact h
          rw [List.drop_append_of_le_length hp, e2, List.append_assoc]
          rfl
        · refine ⟨T.length, [], ?_, ?_⟩
          · rw [← h0.len, List.getElem?_append_right (Nat.le_refl _), Nat.sub_self]
            rfl
          · rw [List.drop_left]
      · rcases snoc_at hi with ⟨h1, h2⟩ | ⟨rfl, rfl⟩
        · rcases snoc_at hj with ⟨h3, h4⟩ | ⟨rfl, rfl⟩
          · rw [List.getElem?_append_left (by rw [h0.len]; exact h1), List.getElem?_append_left (by rw [h0.len]; exact h3)]
            exact h0.eq_ i j u h2 h4
          · exact absurd (List.mem_of_getElem? h2) hnot
        · rcases snoc_at hj with ⟨h3, h4⟩ | ⟨rfl, _⟩
          · exact absurd (List.mem_of_getElem? h4) hnot
          · rfl
      · rcases List.mem_append.1 hx with h1 | h1
        · exact h0.good x h1
        · rcases List.mem_append.1 h1 with h1 | h1
          · unfold dsG; rw [hok x h1]; simp
          · simp at h1; subst h1; rfl
theorem tw_zero {l : List Int} (h : ∀ x ∈ l, nz x = true) (r : List Int) : (l ++ 0 :: r).takeWhile nz = l := by
  induction l with
  | nil => rfl
  | cons a l ih => rw [List.cons_append, List.takeWhile_cons_of_pos (h a (by simp)), ih (fun x hx => h x (by simp [hx]))]
theorem nameL_of {T : List Int} {p : Nat} {s : ByteArray} {r : List Int} (hs : okB s) (h : T.drop p = bIx s ++ 0 :: r) : nameL T p = bIx s ∧ p < T.length := by
  refine ⟨?_, ?_⟩
  · unfold nameL
    rw [h, tw_zero (fun x hx => by unfold nz; exact decide_eq_true (dsA_nz (hs x hx)))]
  · rcases Nat.lt_or_ge p T.length with h1 | h1
    · exact h1
    · rw [List.drop_of_length_le h1] at h
      have := congrArg List.length h
      simp at this
theorem bIx_inj {s u : ByteArray} (h : bIx s = bIx u) : s = u := by
  apply byt_inj.1
  unfold bIx at h
  refine List.map_inj_right (f := fun c : UInt8 => (c.toNat : Int)) (fun a b e => ?_) |>.1 h
  exact UInt8.toNat_inj.1 (by have e : (a.toNat : Int) = (b.toNat : Int) := e; omega)
theorem bS_bIx (s : ByteArray) : bS (bIx s) = s := by
  apply byt_inj.1
  unfold bS bIx
  rw [byt_mk, List.map_map]
  refine (List.map_congr_left (g := id) (fun c _ => ?_)).trans (List.map_id _)
  apply UInt8.toNat_inj.1
  have := c.toNat_lt
  simp
theorem okB_of {s : ByteArray} (h : (byt s).all (fun c => dsA c.toNat) = true) : okB s := by
  intro x hx
  unfold bIx at hx
  obtain ⟨c, hc, rfl⟩ := List.mem_map.1 hx
  exact List.all_eq_true.1 h c hc
/-- where the indices are the same, so are the names. -/
theorem ix_eq {l : List ByteArray} {T X : List Int} (h : BOk l T X) (hs : ∀ s ∈ l, okB s) {i j : Nat} {s u : ByteArray} {x y : Int} (hi : l[i]? = some s) (hj : l[j]? = some u) (hx : X[i]? = some x) (hy : X[j]? = some y) : (x = y) ↔ (s = u) := by
  constructor
  · rintro rfl
    obtain ⟨p, r, e1, e2⟩ := h.at_ i s hi
    obtain ⟨q, r', e3, e4⟩ := h.at_ j u hj
    rw [hx] at e1
    rw [hy] at e3
    injection e1 with e1
    injection e3 with e3
    obtain rfl : p = q := by omega
    have a := (nameL_of (hs s (List.mem_of_getElem? hi)) e2).1
    have b := (nameL_of (hs u (List.mem_of_getElem? hj)) e4).1
    exact bIx_inj (a.symm.trans b)
  · rintro rfl
    have := h.eq_ i j s hi hj
    rw [hx, hy] at this
    injection this
theorem bok_all {ss : List ByteArray} (h : ∀ s ∈ ss, okB s) : BOk ss (bld ss).2.1 (bldX ss) := by
  have := bok ss h ss.length (Nat.le_refl _)
  rwa [List.take_length] at this
theorem T_nil {ss : List ByteArray} (h : ∀ s ∈ ss, okB s) (hn : 0 < ss.length) : ¬ (bld ss).2.1 = [] := by
  intro e
  obtain ⟨p, r, _, e2⟩ := (bok_all h).at_ 0 ss[0] (List.getElem?_eq_getElem hn)
  rw [e] at e2
  have := congrArg List.length e2
  simp at this
theorem bldT_valid {ss : List ByteArray} (h : ∀ s ∈ ss, okB s) : badL (bldT ss) = -1 := by
  have hb := bok_all h
  unfold bldT
  split
  · decide
  · rename_i hne
    exact (badL_iff _).2 ⟨hb.good, hb.last.resolve_left hne⟩
/-- the name at each index. -/
theorem bldT_at {ss : List ByteArray} (h : ∀ s ∈ ss, okB s) {i : Nat} {s : ByteArray} (hi : ss[i]? = some s) : ∃ p : Nat, (bldX ss)[i]? = some (p : Int) ∧ nameL (bldT ss) p = bIx s ∧ p < (bldT ss).length := by
  obtain ⟨p, r, e1, e2⟩ := (bok_all h).at_ i s hi
  have hne := T_nil h (by have := (List.getElem?_eq_some_iff.1 hi).1; omega)
  obtain ⟨a, b⟩ := nameL_of (h s (List.mem_of_getElem? hi)) e2
  refine ⟨p, e1, ?_⟩
  unfold bldT
  rw [if_neg hne]
  exact ⟨a, b⟩
/-- the table's size, name by name. -/
theorem T_step {ss : List ByteArray} {n : Nat} {s : ByteArray} (hx : ss[n]? = some s) : (s ∈ ss.take n → (bld (ss.take (n + 1))).2.1.length = (bld (ss.take n)).2.1.length) ∧ (s ∉ ss.take n → (bld (ss.take (n + 1))).2.1.length = (bld (ss.take n)).2.1.length + s.size + 1) := by
  have hn := (List.getElem?_eq_some_iff.1 hx).1
  have hk := bld_take ss n (by omega)
  rw [take_snoc hx, bld_snoc]
  have h1 := hk.seen
  have h2 := hk.len
  generalize ss.take n = l at *
  generalize bld l = st at *
  obtain ⟨s1, T, X⟩ := st
  simp only at h1 h2
  subst h1
  unfold bstep
  simp only
  cases hf : firstAt s1 X s with
  | some y =>
    obtain ⟨k, hk, _⟩ := firstAt_mem hf
    exact ⟨fun _ => rfl, fun h => absurd (List.mem_of_getElem? hk) h⟩
  | none =>
    refine ⟨fun h => absurd h ((firstAt_none (s := s) h2.symm).1 hf), fun _ => ?_⟩
    show (T ++ (bIx s ++ [0])).length = _
    rw [List.length_append, List.length_append, bIx_len]
    rfl
/-- a longer list's table begins with the shorter one's. -/
theorem T_pre (ss : List ByteArray) (n : Nat) : ∀ m, n ≤ m → m ≤ ss.length → ∃ R, (bld (ss.take m)).2.1 = (bld (ss.take n)).2.1 ++ R ∧ (bld (ss.take m)).2.2.take n = (bld (ss.take n)).2.2 := by
  intro m
  induction m with
  | zero => intro h _; obtain rfl : n = 0 := by omega
            exact ⟨[], rfl, rfl⟩
  | succ m ih =>
    intro h hm
    rcases Nat.eq_or_lt_of_le h with e | e
    · subst e
      refine ⟨[], by rw [List.append_nil], ?_⟩
      have := (bld_take ss (m + 1) hm).len
      rw [List.length_take] at this
      exact List.take_of_length_le (by omega)
    · obtain ⟨R, h1, h2⟩ := ih (by omega) (by omega)
      have hx : ss[m]? = some ss[m] := List.getElem?_eq_getElem (by omega)
      have hl := (bld_take ss m (by omega)).len
      rw [List.length_take] at hl
      rw [take_snoc hx, bld_snoc]
      generalize bld (ss.take m) = st at *
      obtain ⟨s1, T, X⟩ := st
      simp only at h1 h2 hl
      unfold bstep
      simp only
      cases hf : firstAt s1 X ss[m] with
      | some y =>
        refine ⟨R, h1, ?_⟩
        show (X ++ [y]).take n = _
        rw [List.take_append_of_le_length (by omega)]
        exact h2
      | none =>
        refine ⟨R ++ (bIx ss[m] ++ [0]), ?_, ?_⟩
        · show T ++ _ = _
          rw [h1, List.append_assoc]
        · show (X ++ [_]).take n = _
          rw [List.take_append_of_le_length (by omega)]
          exact h2
end Go.Proofs.Ytahldefkhhbdhaa
