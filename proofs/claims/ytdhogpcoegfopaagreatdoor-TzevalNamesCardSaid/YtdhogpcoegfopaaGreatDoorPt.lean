/-
  PLAIN MATHEMATICS of POSIX TZ rules (layer 9): what Day and Parse give. No program.
-/
import Derived.Test.YtdhogpcoegfopaaGreatDoorTnMath
import Derived.Test.YtdhogpcoegfopaaGreatDoorHmMath2
import Derived.Test.YtdhogpcoegfopaaGreatDoorRdMath
namespace Go.Proofs.YtdhogpcoegfopaaGreatDoor
open Go.RowKit
set_option linter.unusedVariables false
set_option maxRecDepth 100000
/-- a rule: Std, StdOffset, HasDst, Dst, DstOffset, Start, End. -/
abbrev PR := List UInt8 × Int × Bool × List UInt8 × Int × RD × RD
def offOk (v : Int) : Prop := -89999 ≤ v ∧ v ≤ 89999
instance (v : Int) : Decidable (offOk v) := by unfold offOk; infer_instance
def prOk (r : PR) : Prop := nameOk r.1 = true ∧ offOk r.2.1 ∧ (if r.2.2.1 = true then nameOk r.2.2.2.1 = true ∧ offOk r.2.2.2.2.1 ∧ rdOk r.2.2.2.2.2.1 ∧ rdOk r.2.2.2.2.2.2 else r.2.2.2.1 = [] ∧ r.2.2.2.2.1 = 0 ∧ r.2.2.2.2.2.1 = rd0 ∧ r.2.2.2.2.2.2 = rd0)
instance (r : PR) : Decidable (prOk r) := by unfold prOk; infer_instance
def ptNum (l : List UInt8) : Option (Int × Nat) :=
  if 1 ≤ (l.takeWhile dig).length ∧ (l.takeWhile dig).length ≤ 3 then some (dval (l.takeWhile dig), (l.takeWhile dig).length) else none
/-- a number and a point. -/
def ptNumP (l : List UInt8) : Option (Int × Nat) :=
  match ptNum l with
  | none => none
  | some (v, n) => match l.drop n with
    | [] => none
    | c :: _ => if (c.toNat : Int) = 46 then some (v, n + 1) else none
/-- the day without its time: Kind, Day, Month, Week, Weekday, and how much it takes. -/
def ptHead (l : List UInt8) : Option ((Int × Int × Int × Int × Int) × Nat) :=
  match l with
  | [] => none
  | c :: t =>
    if (c.toNat : Int) = 74 then (match ptNum t with | none => none | some (v, n) => some ((1, v, 0, 0, 0), 1 + n))
    else if (c.toNat : Int) = 77 then
      (match ptNumP t with
      | none => none
      | some (m, i) => match ptNumP (t.drop i) with
        | none => none
        | some (w, j) => match ptNum (t.drop (i + j)) with
          | none => none
          | some (x, k) => some ((3, 0, m, w, x), 1 + (i + j) + k))
    else (match ptNum (c :: t) with | none => none | some (v, n) => some ((2, v, 0, 0, 0), n))
def ptMk (h : Int × Int × Int × Int × Int) (v : Int) : RD := (h.1, h.2.1, h.2.2.1, h.2.2.2.1, h.2.2.2.2, v)
def ptDay (l : List UInt8) : Option (RD × Nat) :=
  match ptHead l with
  | none => none
  | some (h, n) => match l.drop n with
    | [] => if rdOk (ptMk h 7200) then some (ptMk h 7200, n) else none
    | c :: t => if (c.toNat : Int) = 47 then (match hmsParse t with
        | none => none
        | some (v, k) => if rdOk (ptMk h v) then some (ptMk h v, n + 1 + k) else none)
      else if rdOk (ptMk h 7200) then some (ptMk h 7200, n) else none
/-- a comma and a day, from an offset on: the day and the offset behind it, or the offset of the fault. -/
def ptComma (l : List UInt8) (a : Nat) : Except Nat (RD × Nat) :=
  match l.drop a with
  | [] => .error a
  | c :: t => if (c.toNat : Int) = 44 then (match ptDay t with | none => .error (a + 1) | some (d, n) => .ok (d, a + 1 + n)) else .error a
def ptDays (l : List UInt8) (a : Nat) (std : List UInt8) (so : Int) (dst : List UInt8) (dof : Int) : Except Nat PR :=
  match ptComma l a with
  | .error e => .error e
  | .ok (st, b) => match ptComma l b with
    | .error e => .error e
    | .ok (en, c) => if c = l.length ∧ offOk dof then .ok (std, so, true, dst, dof, st, en) else .error c
def ptParse (l : List UInt8) : Except Nat PR :=
  match tnParse l with
  | none => .error 0
  | some (std, n) => match hmsParse (l.drop n) with
    | none => .error n
    | some (v, m) =>
      if offOk v then
        (if n + m = l.length then .ok (std, -v, false, [], 0, rd0, rd0)
        else match tnParse (l.drop (n + m)) with
          | none => .error (n + m)
          | some (dst, n2) => match hmsParse (l.drop (n + m + n2)) with
            | none => ptDays l (n + m + n2) std (-v) dst (-v + 3600)
            | some (v2, m2) => if offOk v2 then ptDays l (n + m + n2 + m2) std (-v) dst (-v2) else .error (n + m + n2))
      else .error n
/-! ### how much is taken -/
theorem ptNum_some {l : List UInt8} {v : Int} {n : Nat} (h : ptNum l = some (v, n)) : 1 ≤ n ∧ n ≤ 3 ∧ n ≤ l.length ∧ 0 ≤ v ∧ v ≤ 999 := by
  unfold ptNum at h
  split at h
  · rename_i hc
    cases h
    have hd := dval_bd (l.takeWhile dig).length (l.takeWhile dig) (Nat.le_refl _) (fun c hc => r8_.tw_all' hc) hc.2
    exact ⟨hc.1, hc.2, tw_le _ _, hd.1, hd.2.1⟩
  · cases h
theorem ptNumP_some {l : List UInt8} {v : Int} {n : Nat} (h : ptNumP l = some (v, n)) : 2 ≤ n ∧ n ≤ l.length ∧ 0 ≤ v ∧ v ≤ 999 := by
  unfold ptNumP at h
  split at h
  · cases h
  · rename_i v' n' hn
    have := ptNum_some hn
    split at h
    · cases h
    · rename_i c t hd
      have hl : n' < l.length := by
        rcases Nat.lt_or_ge n' l.length with h' | h'
        · exact h'
        · rw [List.drop_of_length_le h'] at hd; cases hd
      split at h
      · cases h
        omega
      · cases h
theorem ptHead_some {l : List UInt8} {h : Int × Int × Int × Int × Int} {n : Nat} (e : ptHead l = some (h, n)) : 1 ≤ n ∧ n ≤ l.length := by
  unfold ptHead at e
  split at e
  · cases e
  · rename_i c t
    split at e
    · split at e
      · cases e
      · rename_i hn
        have := ptNum_some hn
        cases e
        simp
        omega
    · split at e
      · split at e
        · cases e
        · rename_i h1
          have a1 := ptNumP_some h1
          split at e
          · cases e
          · rename_i h2
            have a2 := ptNumP_some h2
            split at e
            · cases e
            · rename_i h3
              have a3 := ptNum_some h3
              cases e
              simp at a2 a3 ⊢
              omega
      · split at e
        · cases e
        · rename_i hn
          have := ptNum_some hn
          cases e
          omega
theorem ptDay_some {l : List UInt8} {d : RD} {n : Nat} (e : ptDay l = some (d, n)) : 1 ≤ n ∧ n ≤ l.length ∧ rdOk d := by
  unfold ptDay at e
  split at e
  · cases e
  · rename_i hd
    have a := ptHead_some hd
    split at e
    · split at e
      · rename_i hr
        cases e
        exact ⟨a.1, a.2, hr⟩
      · cases e
    · rename_i c t hdr
      have hl := congrArg List.length hdr
      simp at hl
      split at e
      · split at e
        · cases e
        · rename_i hh
          have b := parse_prefix hh
          split at e
          · rename_i hr
            cases e
            exact ⟨by omega, by omega, hr⟩
          · cases e
      · split at e
        · rename_i hr
          cases e
          exact ⟨a.1, a.2, hr⟩
        · cases e
theorem ptComma_ok {l : List UInt8} {a b : Nat} {d : RD} (e : ptComma l a = .ok (d, b)) : a + 2 ≤ b ∧ b ≤ l.length ∧ rdOk d := by
  unfold ptComma at e
  split at e
  · cases e
  · rename_i c t hdr
    have hl := congrArg List.length hdr
    simp at hl
    split at e
    · split at e
      · cases e
      · rename_i hd
        have := ptDay_some hd
        cases e
        exact ⟨by omega, by omega, this.2.2⟩
    · cases e
theorem ptComma_err {l : List UInt8} {a x : Nat} (ha : a ≤ l.length) (e : ptComma l a = .error x) : x ≤ l.length := by
  unfold ptComma at e
  split at e
  · cases e; exact ha
  · rename_i c t hdr
    have hl := congrArg List.length hdr
    simp at hl
    split at e
    · split at e
      · cases e; omega
      · cases e
    · cases e; exact ha
theorem ptDays_err {l : List UInt8} {a x : Nat} {std dst : List UInt8} {so dof : Int} (ha : a ≤ l.length) (e : ptDays l a std so dst dof = .error x) : x ≤ l.length := by
  unfold ptDays at e
  split at e
  · rename_i h1
    cases e
    exact ptComma_err ha h1
  · rename_i h1
    have b1 := ptComma_ok h1
    split at e
    · rename_i h2
      cases e
      exact ptComma_err b1.2.1 h2
    · rename_i h2
      have b2 := ptComma_ok h2
      split at e
      · cases e
      · cases e; exact b2.2.1
theorem ptDays_ok {l : List UInt8} {a : Nat} {std dst : List UInt8} {so dof : Int} {r : PR} (e : ptDays l a std so dst dof = .ok r) : offOk dof ∧ ∃ st en, r = (std, so, true, dst, dof, st, en) ∧ rdOk st ∧ rdOk en := by
  unfold ptDays at e
  split at e
  · cases e
  · rename_i h1
    have b1 := ptComma_ok h1
    split at e
    · cases e
    · rename_i h2
      have b2 := ptComma_ok h2
      split at e
      · rename_i hc
        cases e
        exact ⟨hc.2, _, _, rfl, b1.2.2, b2.2.2⟩
      · cases e
theorem ptParse_err {l : List UInt8} {x : Nat} (e : ptParse l = .error x) : x ≤ l.length := by
  unfold ptParse at e
  split at e
  · cases e; omega
  · rename_i std n h1
    have a1 := tnParse_some h1
    split at e
    · cases e; exact a1.2.1
    · rename_i v m h2
      have a2 := parse_prefix h2
      simp at a2
      split at e
      · split at e
        · cases e
        · split at e
          · cases e; omega
          · rename_i dst n2 h3
            have a3 := tnParse_some h3
            simp at a3
            split at e
            · exact ptDays_err (by omega) e
            · rename_i v2 m2 h4
              have a4 := parse_prefix h4
              simp at a4
              split at e
              · exact ptDays_err (by omega) e
              · cases e; omega
      · cases e; exact a1.2.1
theorem ptParse_ok {l : List UInt8} {r : PR} (e : ptParse l = .ok r) : prOk r := by
  unfold ptParse at e
  split at e
  · cases e
  · rename_i std n h1
    have a1 := tnParse_some h1
    split at e
    · cases e
    · rename_i v m h2
      split at e
      · rename_i hv
        have hv' : offOk (-v) := by unfold offOk at hv ⊢; omega
        split at e
        · cases e
          exact ⟨a1.1, hv', rfl, rfl, rfl, rfl⟩
        · split at e
          · cases e
          · rename_i dst n2 h3
            have a3 := tnParse_some h3
            split at e
            · obtain ⟨ho, st, en, rfl, hs, hn⟩ := ptDays_ok e
              exact ⟨a1.1, hv', a3.1, ho, hs, hn⟩
            · split at e
              · obtain ⟨ho, st, en, rfl, hs, hn⟩ := ptDays_ok e
                exact ⟨a1.1, hv', a3.1, ho, hs, hn⟩
              · cases e
      · cases e
end Go.Proofs.YtdhogpcoegfopaaGreatDoor
