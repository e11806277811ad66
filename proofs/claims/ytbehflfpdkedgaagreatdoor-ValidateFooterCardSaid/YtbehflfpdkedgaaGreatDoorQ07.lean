/-
  Texts of mine in one file: Hf, HmMath, HmMath2, RdMath, Pt, PtSp, PtFmt, PoW, Fl, DsMath, VdM, Ref12, Be, Same1. Their conditions stand in the theorems.
-/
import Derived.Test.YtbehflfpdkedgaaGreatDoorQ06
import Derived.Test.YtbehflfpdkedgaaGreatDoorQ01
import Derived.Test.YtbehflfpdkedgaaGreatDoorQ05
import Derived.Test.YtbehflfpdkedgaaGreatDoorRows
import Derived.Test.YtbehflfpdkedgaaGreatDoorQ04
import Derived.BigQuiet
namespace Go.Proofs.YtbehflfpdkedgaaGreatDoor
set_option linter.unusedVariables false
set_option linter.unusedSimpArgs false
set_option maxRecDepth 100000
set_option maxHeartbeats 16000000
open Go.ChangeShapes Go.WideShapes Go.ChangeAt Go.RowKit
def dg (x : Int) : UInt8 := UInt8.ofNat (48 + x).toNat
def d2 (x : Int) : List UInt8 := [dg (x / 10), dg (x % 10)]
def hh (h : Int) : List UInt8 := (if 100 ≤ h then [49] else []) ++ ((if 10 ≤ h then [dg (h / 10 % 10)] else []) ++ [dg (h % 10)])
def hmsAbs (x : Int) : List UInt8 := hh (x / 3600) ++ ((if 0 < x % 3600 then 58 :: d2 (x / 60 % 60) else []) ++ (if 0 < x % 60 then 58 :: d2 (x % 60) else []))
def hmsFmt (x : Int) : List UInt8 := if x < 0 then 45 :: hmsAbs (-x) else hmsAbs x
theorem dg_toNat {x : Int} (h0 : 0 ≤ x) (h1 : x ≤ 9) : ((dg x).toNat : Int) = 48 + x := by
 unfold dg
 simp
 omega
namespace r8_
--@FORMAT
end r8_
theorem hh_val {h : Int} (h0 : 0 ≤ h) (h1 : h ≤ 167) : dval (hh h) = h ∧ 1 ≤ (hh h).length ∧ (hh h).length ≤ 3 ∧ (h < 100 → (hh h).length ≤ 2) ∧ (h < 10 → (hh h).length ≤ 1) := by
 have d1 := dg_toNat (x := h / 10 % 10) (by omega) (by omega)
 have d2 := dg_toNat (x := h % 10) (by omega) (by omega)
 have e49 : ((49 : UInt8).toNat : Int) = 49 := rfl
 unfold hh dval
 by_cases ha : 100 ≤ h
 ·rw [if_pos ha, if_pos (show 10 ≤ h by omega)]
  simp [d1, d2]
  omega
 ·rw [if_neg ha]
  by_cases hb : 10 ≤ h
  ·rw [if_pos hb]
   simp [d1, d2]
   omega
  ·rw [if_neg hb]
   simp [d2]
   omega
theorem tw_app' {p : UInt8 → Bool} {a b : List UInt8} (ha : ∀ c ∈ a, p c = true) (hb : b = [] ∨ ∃ x t, b = x :: t ∧ p x = false) : (a ++ b).takeWhile p = a := by
 rw [List.takeWhile_append_of_pos ha]
 rcases hb with rfl | ⟨x, t, rfl, hx⟩
 ·simp
 ·rw [List.takeWhile_cons_of_neg (by simp [hx])]
  simp
theorem body_of {d m : List UInt8} (hd : ∀ c ∈ d, dig c = true) (hm : m = [] ∨ ∃ x t, m = x :: t ∧ dig x = false) (h1 : 1 ≤ d.length) (h3 : d.length ≤ 3) (hv : dval d ≤ 167) :
 hmsBody (d ++ m) = some (3600 * dval d + (hmsTail m).1, d.length + (hmsTail m).2) := by
 have e := tw_app' hd hm
 have e2 : (d ++ m).drop d.length = m := by simp
 simp only [hmsBody, e, e2]
 rw [if_pos ⟨h1, h3, hv⟩]
theorem d2_len (x : Int) : (d2 x).length = 2 := rfl
theorem parse_plus (l : List UInt8) : hmsParse (43 :: l) = (hmsBody l).map fun p => (p.1, p.2 + 1) := by
 unfold hmsParse
 simp only
 rw [if_pos (show ((43 : UInt8).toNat : Int) = 43 from rfl)]
theorem parse_minus (l : List UInt8) : hmsParse (45 :: l) = (hmsBody l).map fun p => (- p.1, p.2 + 1) := by
 unfold hmsParse
 simp only
 rw [if_neg (show ¬ ((45 : UInt8).toNat : Int) = 43 by decide), if_pos (show ((45 : UInt8).toNat : Int) = 45 from rfl)]
theorem field_take (m : List UInt8) (k : Nat) : hmsField (m.take (k + 3)) = hmsField m := by
 match m with
 | [] => rfl
 | [a] => rfl
 | [a, b] => rfl
 | a :: b :: c :: r => rfl
theorem field_len {m : List UInt8} (h : 0 ≤ hmsField m) : 3 ≤ m.length ∧ ∃ t, m = 58 :: t := by
 match m, h with
 | [], h => simp [hmsField] at h
 | [a], h => simp [hmsField] at h
 | [a, b], h => simp [hmsField] at h
 | a :: b :: c :: r, h =>
   refine ⟨by simp, b :: c :: r, ?_⟩
   unfold hmsField at h
   simp only at h
   split at h
   ·rename_i h'
    rw [show a = 58 from UInt8.toNat_inj.1 (by have := h'.1; have e : (58 : UInt8).toNat = 58 := rfl; omega)]
   ·omega
theorem tail_take (m : List UInt8) : (hmsTail m).2 ≤ m.length ∧ hmsTail (m.take (hmsTail m).2) = hmsTail m ∧ 0 ≤ (hmsTail m).1 ∧ (hmsTail m).1 < 3600 ∧ (0 < (hmsTail m).1 → 3 ≤ (hmsTail m).2) ∧ (0 < (hmsTail m).1 % 60 → (hmsTail m).2 = 6)
 ∧ (m.take (hmsTail m).2 = [] ∨ ∃ x t, m.take (hmsTail m).2 = x :: t ∧ dig x = false) := by
 have b1 := hmsField_bd m
 have b2 := hmsField_bd (m.drop 3)
 by_cases h1 : 0 ≤ hmsField m
 ·obtain ⟨l1, t, ht⟩ := field_len h1
  by_cases h2 : 0 ≤ hmsField (m.drop 3)
  ·obtain ⟨l2, _⟩ := field_len h2
   have e : hmsTail m = (60 * hmsField m + hmsField (m.drop 3), 6) := by unfold hmsTail; rw [if_pos h1, if_pos h2]
   rw [e]
   have e2 : (m.take 6).drop 3 = (m.drop 3).take 3 := by rw [List.drop_take]
   refine ⟨by simp at l2; simp; omega, ?_, by simp; omega, by simp; omega, by simp, by simp, .inr ⟨58, t.take 5, by rw [ht]; rfl, rfl⟩⟩
   unfold hmsTail
   rw [show hmsField (m.take 6) = hmsField m from field_take m 3, e2, show hmsField ((m.drop 3).take 3) = hmsField (m.drop 3) from field_take _ 0, if_pos h1, if_pos h2]
  ·have e : hmsTail m = (60 * hmsField m, 3) := by unfold hmsTail; rw [if_pos h1, if_neg h2]
   rw [e]
   have e2 : (m.take 3).drop 3 = [] := by rw [List.drop_take]; simp
   refine ⟨l1, ?_, by simp <;> omega, by simp <;> omega, by simp, by simp <;> omega, .inr ⟨58, t.take 2, by rw [ht]; rfl, rfl⟩⟩
   unfold hmsTail
   rw [show hmsField (m.take 3) = hmsField m from field_take m 0, e2, if_pos h1, if_neg (by decide)]
 ·have e : hmsTail m = (0, 0) := by unfold hmsTail; rw [if_neg h1]
  rw [e]
  exact ⟨by simp, rfl, by simp, by simp, by simp, by simp, .inl rfl⟩
theorem body_prefix {l : List UInt8} {v : Int} {k : Nat} (h : hmsBody l = some (v, k)) : 1 ≤ k ∧ k ≤ l.length ∧ 0 ≤ v ∧ v < 604800 ∧ hmsBody (l.take k) = some (v, k) ∧ (hmsAbs v).length ≤ k := by
 obtain ⟨d, hd⟩ : ∃ d, d = l.takeWhile dig := ⟨_, rfl⟩
 obtain ⟨m, hm⟩ : ∃ m, m = l.drop d.length := ⟨_, rfl⟩
 have hdd : ∀ c ∈ d, dig c = true := fun c hc => r8_.tw_all' (p := dig) (l := l) (by rw [← hd]; exact hc)
 have hl : l = d ++ m := by
  have := take_tw (p := dig) l
  rw [← hd] at this
  rw [hm, ← this]
  simp
  rw [show min d.length l.length = d.length from Nat.min_eq_left (by rw [hd]; exact tw_le _ _)]
  simp
 have hb : hmsBody l = if 1 ≤ d.length ∧ d.length ≤ 3 ∧ dval d ≤ 167 then some (3600 * dval d + (hmsTail m).1, d.length + (hmsTail m).2) else none := by
  simp only [hmsBody, ← hd, ← hm]
 rw [hb] at h
 split at h
 ·rename_i hc
  obtain ⟨c1, c2, c3⟩ := hc
  cases h
  obtain ⟨t1, t2, t3, t4, t5, t6, t7⟩ := tail_take m
  obtain ⟨v0, v1, v2, v3⟩ := dval_bd d.length d (by omega) hdd c2
  have hlen : l.length = d.length + m.length := by rw [hl, List.length_append]
  have htk : l.take (d.length + (hmsTail m).2) = d ++ m.take (hmsTail m).2 := by
   rw [hl, List.take_append]
   simp
   rw [List.take_of_length_le (by omega)]
  refine ⟨by omega, by omega, by omega, by omega, ?_, ?_⟩
  ·rw [htk, body_of hdd t7 c1 c2 c3, t2]
  ·obtain ⟨q1, q2, q3, q4, q5⟩ := hh_val (h := dval d) (by omega) (by omega)
   have e1 : (3600 * dval d + (hmsTail m).1) / 3600 = dval d := by omega
   have e2 : (3600 * dval d + (hmsTail m).1) % 3600 = (hmsTail m).1 := by omega
   have e3 : (3600 * dval d + (hmsTail m).1) % 60 = (hmsTail m).1 % 60 := by omega
   have hhl : (hh (dval d)).length ≤ d.length := by
    by_cases x1 : d.length ≤ 1
    ·have := v3 x1
     have := q5 (by omega)
     omega
    ·by_cases x2 : d.length ≤ 2
     ·have := v2 x2
      have := q4 (by omega)
      omega
     ·omega
   unfold hmsAbs
   rw [e1, e2, e3]
   simp only [List.length_append]
   by_cases y1 : 0 < (hmsTail m).1
   ·have := t5 y1
    by_cases y2 : 0 < (hmsTail m).1 % 60
    ·have := t6 y2
     rw [if_pos y1, if_pos y2]
     simp [d2_len]
     omega
    ·rw [if_pos y1, if_neg y2]
     simp [d2_len]
     omega
   ·rw [if_neg y1, if_neg (show ¬ 0 < (hmsTail m).1 % 60 by omega)]
    simp
    omega
 ·cases h
theorem parse_prefix {l : List UInt8} {a : Int} {n : Nat} (h : hmsParse l = some (a, n)) : 1 ≤ n ∧ n ≤ l.length ∧ -604800 < a ∧ a < 604800 ∧ hmsParse (l.take n) = some (a, n) ∧ (hmsFmt a).length ≤ n := by
 cases l with
 | nil => cases h
 | cons c t =>
   by_cases h43 : (c.toNat : Int) = 43
   ·have e43 : c = 43 := UInt8.toNat_inj.1 (by have e : (43 : UInt8).toNat = 43 := rfl; omega)
    subst e43
    rw [parse_plus] at h
    cases hb : hmsBody t with
    | none => rw [hb] at h; cases h
    | some p =>
      obtain ⟨v, k⟩ := p
      rw [hb] at h
      cases h
      obtain ⟨g1, g2, g3, g4, g5, g6⟩ := body_prefix hb
      refine ⟨by omega, by simp; omega, by omega, by omega, ?_, ?_⟩
      ·rw [List.take_succ_cons, parse_plus, g5]; rfl
      ·unfold hmsFmt
       simp only
       rw [if_neg (by omega)]
       omega
   ·by_cases h45 : (c.toNat : Int) = 45
    ·have e45 : c = 45 := UInt8.toNat_inj.1 (by have e : (45 : UInt8).toNat = 45 := rfl; omega)
     subst e45
     rw [parse_minus] at h
     cases hb : hmsBody t with
     | none => rw [hb] at h; cases h
     | some p =>
       obtain ⟨v, k⟩ := p
       rw [hb] at h
       cases h
       obtain ⟨g1, g2, g3, g4, g5, g6⟩ := body_prefix hb
       refine ⟨by omega, by simp; omega, by simp; omega, by simp; omega, ?_, ?_⟩
       ·rw [List.take_succ_cons, parse_minus, g5]; rfl
       ·unfold hmsFmt
        simp only
        by_cases hv : -v < 0
        ·rw [if_pos hv, Int.neg_neg]
         simp
         omega
        ·rw [if_neg hv]
         obtain rfl : v = 0 := by omega
         have : (hmsAbs (-0)).length = (hmsAbs 0).length := rfl
         omega
    ·have e : ∀ (u : List UInt8), hmsParse (c :: u) = hmsBody (c :: u) := fun u => by
      unfold hmsParse
      simp only
      rw [if_neg h43, if_neg h45]
     rw [e] at h
     obtain ⟨g1, g2, g3, g4, g5, g6⟩ := body_prefix h
     obtain ⟨j, rfl⟩ : ∃ j, n = j + 1 := ⟨n - 1, by omega⟩
     refine ⟨g1, g2, by omega, by omega, ?_, ?_⟩
     ·rw [List.take_succ_cons, e, ← List.take_succ_cons, g5]
     ·unfold hmsFmt
      rw [if_neg (by omega)]
      exact g6
def rfirst (y M wd : Int) : Int := days y M 1 + (wd - (days y M 1 + 4)) % 7
def rdm (y M wk wd : Int) : Int := if wk ≤ 4 then rfirst y M wd + 7 * (wk - 1) else if rfirst y M wd + 28 < days y M 1 + mdays y M then rfirst y M wd + 28 else rfirst y M wd + 21
def rdj (y D : Int) : Int := ystart y + D - 1 + (if leap y = true ∧ 60 ≤ D then 1 else 0)
def rday (K D M Wk Wd y : Int) : Int := if K = 2 then ystart y + D else if K = 1 then rdj y D else rdm y M Wk Wd
def RdOk (K D M Wk Wd T : Int) : Prop := -604799 ≤ T ∧ T ≤ 604799 ∧ ((K = 1 ∧ 1 ≤ D ∧ D ≤ 365 ∧ M = 0 ∧ Wk = 0 ∧ Wd = 0) ∨ (K = 2 ∧ 0 ≤ D ∧ D ≤ 365 ∧ M = 0 ∧ Wk = 0 ∧ Wd = 0) ∨ (K = 3 ∧ D = 0 ∧ 1 ≤ M ∧ M ≤ 12 ∧ 1 ≤ Wk ∧ Wk ≤ 5 ∧ 0 ≤ Wd ∧ Wd ≤ 6))
instance (K D M Wk Wd T : Int) : Decidable (RdOk K D M Wk Wd T) := by unfold RdOk; infer_instance
abbrev RD := Int × Int × Int × Int × Int × Int
def rdOk (d : RD) : Prop := RdOk d.1 d.2.1 d.2.2.1 d.2.2.2.1 d.2.2.2.2.1 d.2.2.2.2.2
instance (d : RD) : Decidable (rdOk d) := by unfold rdOk; infer_instance
def rd0 : RD := (0, 0, 0, 0, 0, 0)
theorem rfirst_bd (y M wd : Int) (h0 : 0 ≤ wd) (h1 : wd ≤ 6) : days y M 1 ≤ rfirst y M wd ∧ rfirst y M wd ≤ days y M 1 + 6 ∧ (rfirst y M wd + 4) % 7 = wd := by
 unfold rfirst
 omega
theorem rdm_bd (y M wk wd : Int) (h0 : 0 ≤ wd) (h1 : wd ≤ 6) (h2 : 1 ≤ wk) (h3 : wk ≤ 5) : days y M 1 ≤ rdm y M wk wd ∧ rdm y M wk wd < days y M 1 + mdays y M ∧ (rdm y M wk wd + 4) % 7 = wd := by
 have h := rfirst_bd y M wd h0 h1
 have hm := mdays_bd y M
 unfold rdm
 split
 ·omega
 ·split <;> omega
theorem julian {D : Int} (h0 : 1 ≤ D) (h1 : D ≤ 365) : ∃ k : Nat, k ≤ 11 ∧ cum 2001 k < D ∧ D ≤ cum 2001 (k + 1) := by
 obtain ⟨k, h2, h3, h4⟩ := month_ex 2001 (D - 1) (by omega) 12 (by rw [cum12]; rw [show ylen 2001 = 365 from rfl]; omega)
 exact ⟨k, by omega, by omega, by omega⟩
theorem cum_leap (y : Int) (k : Nat) : cum y k = cum 2001 k + (if leap y = true ∧ 2 ≤ k then 1 else 0) := by
 induction k with
 | zero => simp [cum]
 | succ k ih =>
   have e : mdays y ((k : Int) + 1) = mdays 2001 ((k : Int) + 1) + (if leap y = true ∧ k = 1 then 1 else 0) := by
    by_cases hk : k = 1
    ·subst hk
     cases h : leap y <;> simp [mdays, h, show leap 2001 = false from rfl]
    ·have : ¬ ((k : Int) + 1 = 2) := by omega
     simp [mdays, this, hk]
   simp only [cum, ih, e]
   cases h : leap y
   ·simp
   ·rcases (show k = 0 ∨ k = 1 ∨ 2 ≤ k by omega) with rfl | rfl | hk
    ·simp
    ·simp; omega
    ·have h1 : ¬ k = 1 := by omega
     have h2 : 2 ≤ k + 1 := by omega
     simp [hk, h1, h2]
     omega
theorem mdays_ge (y m : Int) : mdays 2001 m ≤ mdays y m := by
 by_cases h : m = 2
 ·subst h
  cases hl : leap y <;> simp [mdays, hl, show leap 2001 = false from rfl]
 ·simp [mdays, h]
theorem julian_day {y D : Int} {k : Nat} (hk : k ≤ 11) (h1 : cum 2001 k < D) (h2 : D ≤ cum 2001 (k + 1)) : days y ((k : Int) + 1) (D - cum 2001 k) = rdj y D ∧ DateOk y ((k : Int) + 1) (D - cum 2001 k) := by
 have hc := cum_leap y k
 have hc2 := cum_leap y (k + 1)
 have hm : D - cum 2001 k ≤ mdays y ((k : Int) + 1) := by
  simp only [cum] at hc2 h2
  have := mdays_ge y ((k : Int) + 1)
  omega
 have h60 : (60 ≤ D) ↔ 2 ≤ k := by
  have e2 : cum 2001 2 = 59 := rfl
  constructor
  ·intro h
   rcases Nat.lt_or_ge k 2 with hl | hl
   ·have := cum_mono 2001 (show k + 1 ≤ 2 by omega); omega
   ·exact hl
  ·intro h
   have := cum_mono 2001 h
   omega
 refine ⟨?_, by omega, by omega, by omega, hm⟩
 unfold days yday rdj
 rw [show ((k : Int) + 1 - 1).toNat = k by omega, hc]
 simp only [h60]
 omega
abbrev PR := List UInt8 × Int × Bool × List UInt8 × Int × RD × RD
def offOk (v : Int) : Prop := -89999 ≤ v ∧ v ≤ 89999
instance (v : Int) : Decidable (offOk v) := by unfold offOk; infer_instance
def prOk (r : PR) : Prop := nameOk r.1 = true ∧ offOk r.2.1 ∧ (if r.2.2.1 = true then nameOk r.2.2.2.1 = true ∧ offOk r.2.2.2.2.1 ∧ rdOk r.2.2.2.2.2.1 ∧ rdOk r.2.2.2.2.2.2 else r.2.2.2.1 = [] ∧ r.2.2.2.2.1 = 0 ∧ r.2.2.2.2.2.1 = rd0 ∧ r.2.2.2.2.2.2 = rd0)
instance (r : PR) : Decidable (prOk r) := by unfold prOk; infer_instance
def ptNum (l : List UInt8) : Option (Int × Nat) :=
 if 1 ≤ (l.takeWhile dig).length ∧ (l.takeWhile dig).length ≤ 3 then some (dval (l.takeWhile dig), (l.takeWhile dig).length) else none
def ptNumP (l : List UInt8) : Option (Int × Nat) :=
 match ptNum l with
 | none => none
 | some (v, n) => match l.drop n with
   | [] => none
   | c :: _ => if (c.toNat : Int) = 46 then some (v, n + 1) else none
def ptHead (l : List UInt8) : Option ((Int × Int × Int × Int × Int) × Nat) :=
 match l with
 | [] => none
 | c :: t =>
   if (c.toNat : Int) = 74 then (match ptNum t with | none => none | some (v, n) => some ((1, v, 0, 0, 0), 1 + n))
   else if (c.toNat : Int) = 77 then
    (match ptNumP t with
    | none => none
    | some (m, i) => match ptNumP (t.drop i) with
      | none => none
      | some (w, j) => match ptNum (t.drop (i + j)) with
        | none => none
        | some (x, k) => some ((3, 0, m, w, x), 1 + (i + j) + k))
   else (match ptNum (c :: t) with | none => none | some (v, n) => some ((2, v, 0, 0, 0), n))
def ptMk (h : Int × Int × Int × Int × Int) (v : Int) : RD := (h.1, h.2.1, h.2.2.1, h.2.2.2.1, h.2.2.2.2, v)
def ptDay (l : List UInt8) : Option (RD × Nat) :=
 match ptHead l with
 | none => none
 | some (h, n) => match l.drop n with
   | [] => if rdOk (ptMk h 7200) then some (ptMk h 7200, n) else none
   | c :: t => if (c.toNat : Int) = 47 then (match hmsParse t with
    | none => none
    | some (v, k) => if rdOk (ptMk h v) then some (ptMk h v, n + 1 + k) else none)
     else if rdOk (ptMk h 7200) then some (ptMk h 7200, n) else none
def ptComma (l : List UInt8) (a : Nat) : Except Nat (RD × Nat) :=
 match l.drop a with
 | [] => .error a
 | c :: t => if (c.toNat : Int) = 44 then (match ptDay t with | none => .error (a + 1) | some (d, n) => .ok (d, a + 1 + n)) else .error a
def ptDays (l : List UInt8) (a : Nat) (std : List UInt8) (so : Int) (dst : List UInt8) (dof : Int) : Except Nat PR :=
 match ptComma l a with
 | .error e => .error e
 | .ok (st, b) => match ptComma l b with
   | .error e => .error e
   | .ok (en, c) => if c = l.length ∧ offOk dof then .ok (std, so, true, dst, dof, st, en) else .error c
def ptParse (l : List UInt8) : Except Nat PR :=
 match tnParse l with
 | none => .error 0
 | some (std, n) => match hmsParse (l.drop n) with
   | none => .error n
   | some (v, m) =>
     if offOk v then
      (if n + m = l.length then .ok (std, -v, false, [], 0, rd0, rd0)
      else match tnParse (l.drop (n + m)) with
       | none => .error (n + m)
       | some (dst, n2) => match hmsParse (l.drop (n + m + n2)) with
         | none => ptDays l (n + m + n2) std (-v) dst (-v + 3600)
         | some (v2, m2) => if offOk v2 then ptDays l (n + m + n2 + m2) std (-v) dst (-v2) else .error (n + m + n2))
     else .error n
theorem ptNum_some {l : List UInt8} {v : Int} {n : Nat} (h : ptNum l = some (v, n)) : 1 ≤ n ∧ n ≤ 3 ∧ n ≤ l.length ∧ 0 ≤ v ∧ v ≤ 999 := by
 unfold ptNum at h
 split at h
 ·rename_i hc
  cases h
  have hd := dval_bd (l.takeWhile dig).length (l.takeWhile dig) (Nat.le_refl _) (fun c hc => r8_.tw_all' hc) hc.2
  exact ⟨hc.1, hc.2, tw_le _ _, hd.1, hd.2.1⟩
 ·cases h
theorem ptNumP_some {l : List UInt8} {v : Int} {n : Nat} (h : ptNumP l = some (v, n)) : 2 ≤ n ∧ n ≤ l.length ∧ 0 ≤ v ∧ v ≤ 999 := by
 unfold ptNumP at h
 split at h
 ·cases h
 ·rename_i v' n' hn
  have := ptNum_some hn
  split at h
  ·cases h
  ·rename_i c t hd
   have hl : n' < l.length := by
    rcases Nat.lt_or_ge n' l.length with h' | h'
    ·exact h'
    ·rw [List.drop_of_length_le h'] at hd; cases hd
   split at h
   ·cases h
    omega
   ·cases h
theorem ptHead_some {l : List UInt8} {h : Int × Int × Int × Int × Int} {n : Nat} (e : ptHead l = some (h, n)) : 1 ≤ n ∧ n ≤ l.length := by
 unfold ptHead at e
 split at e
 ·cases e
 ·rename_i c t
  split at e
  ·split at e
   ·cases e
   ·rename_i hn
    have := ptNum_some hn
    cases e
    simp
    omega
  ·split at e
   ·split at e
    ·cases e
    ·rename_i h1
     have a1 := ptNumP_some h1
     split at e
     ·cases e
     ·rename_i h2
      have a2 := ptNumP_some h2
      split at e
      ·cases e
      ·rename_i h3
       have a3 := ptNum_some h3
       cases e
       simp at a2 a3 ⊢
       omega
   ·split at e
    ·cases e
    ·rename_i hn
     have := ptNum_some hn
     cases e
     omega
theorem ptDay_some {l : List UInt8} {d : RD} {n : Nat} (e : ptDay l = some (d, n)) : 1 ≤ n ∧ n ≤ l.length ∧ rdOk d := by
 unfold ptDay at e
 split at e
 ·cases e
 ·rename_i hd
  have a := ptHead_some hd
  split at e
  ·split at e
   ·rename_i hr
    cases e
    exact ⟨a.1, a.2, hr⟩
   ·cases e
  ·rename_i c t hdr
   have hl := congrArg List.length hdr
   simp at hl
   split at e
   ·split at e
    ·cases e
    ·rename_i hh
     have b := parse_prefix hh
     split at e
     ·rename_i hr
      cases e
      exact ⟨by omega, by omega, hr⟩
     ·cases e
   ·split at e
    ·rename_i hr
     cases e
     exact ⟨a.1, a.2, hr⟩
    ·cases e
theorem ptComma_ok {l : List UInt8} {a b : Nat} {d : RD} (e : ptComma l a = .ok (d, b)) : a + 2 ≤ b ∧ b ≤ l.length ∧ rdOk d := by
 unfold ptComma at e
 split at e
 ·cases e
 ·rename_i c t hdr
  have hl := congrArg List.length hdr
  simp at hl
  split at e
  ·split at e
   ·cases e
   ·rename_i hd
    have := ptDay_some hd
    cases e
    exact ⟨by omega, by omega, this.2.2⟩
  ·cases e
theorem ptComma_err {l : List UInt8} {a x : Nat} (ha : a ≤ l.length) (e : ptComma l a = .error x) : x ≤ l.length := by
 unfold ptComma at e
 split at e
 ·cases e; exact ha
 ·rename_i c t hdr
  have hl := congrArg List.length hdr
  simp at hl
  split at e
  ·split at e
   ·cases e; omega
   ·cases e
  ·cases e; exact ha
theorem ptDays_err {l : List UInt8} {a x : Nat} {std dst : List UInt8} {so dof : Int} (ha : a ≤ l.length) (e : ptDays l a std so dst dof = .error x) : x ≤ l.length := by
 unfold ptDays at e
 split at e
 ·rename_i h1
  cases e
  exact ptComma_err ha h1
 ·rename_i h1
  have b1 := ptComma_ok h1
  split at e
  ·rename_i h2
   cases e
   exact ptComma_err b1.2.1 h2
  ·rename_i h2
   have b2 := ptComma_ok h2
   split at e
   ·cases e
   ·cases e; exact b2.2.1
theorem ptDays_ok {l : List UInt8} {a : Nat} {std dst : List UInt8} {so dof : Int} {r : PR} (e : ptDays l a std so dst dof = .ok r) : offOk dof ∧ ∃ st en, r = (std, so, true, dst, dof, st, en) ∧ rdOk st ∧ rdOk en := by
 unfold ptDays at e
 split at e
 ·cases e
 ·rename_i h1
  have b1 := ptComma_ok h1
  split at e
  ·cases e
  ·rename_i h2
   have b2 := ptComma_ok h2
   split at e
   ·rename_i hc
    cases e
    exact ⟨hc.2, _, _, rfl, b1.2.2, b2.2.2⟩
   ·cases e
theorem ptParse_err {l : List UInt8} {x : Nat} (e : ptParse l = .error x) : x ≤ l.length := by
 unfold ptParse at e
 split at e
 ·cases e; omega
 ·rename_i std n h1
  have a1 := tnParse_some h1
  split at e
  ·cases e; exact a1.2.1
  ·rename_i v m h2
   have a2 := parse_prefix h2
   simp at a2
   split at e
   ·split at e
    ·cases e
    ·split at e
     ·cases e; omega
     ·rename_i dst n2 h3
      have a3 := tnParse_some h3
      simp at a3
      split at e
      ·exact ptDays_err (by omega) e
      ·rename_i v2 m2 h4
       have a4 := parse_prefix h4
       simp at a4
       split at e
       ·exact ptDays_err (by omega) e
       ·cases e; omega
   ·cases e; exact a1.2.1
theorem ptParse_ok {l : List UInt8} {r : PR} (e : ptParse l = .ok r) : prOk r := by
 unfold ptParse at e
 split at e
 ·cases e
 ·rename_i std n h1
  have a1 := tnParse_some h1
  split at e
  ·cases e
  ·rename_i v m h2
   split at e
   ·rename_i hv
    have hv' : offOk (-v) := by unfold offOk at hv ⊢; omega
    split at e
    ·cases e
     exact ⟨a1.1, hv', rfl, rfl, rfl, rfl⟩
    ·split at e
     ·cases e
     ·rename_i dst n2 h3
      have a3 := tnParse_some h3
      split at e
      ·obtain ⟨ho, st, en, rfl, hs, hn⟩ := ptDays_ok e
       exact ⟨a1.1, hv', a3.1, ho, hs, hn⟩
      ·split at e
       ·obtain ⟨ho, st, en, rfl, hs, hn⟩ := ptDays_ok e
        exact ⟨a1.1, hv', a3.1, ho, hs, hn⟩
       ·cases e
   ·cases e
def vday (d : RD) : Value := .agg #[.int .i64 d.1, .int .i64 d.2.1, .int .i64 d.2.2.1, .int .i64 d.2.2.2.1, .int .i64 d.2.2.2.2.1, .int .i64 d.2.2.2.2.2]
def vrule (std : ByteArray) (so : Int) (hd : Bool) (dst : ByteArray) (dof : Int) (st en : RD) : Value :=
 .agg #[.string std, .int .i64 so, .bool hd, .string dst, .int .i64 dof, .int .i64 st.1, .int .i64 st.2.1, .int .i64 st.2.2.1, .int .i64 st.2.2.2.1, .int .i64 st.2.2.2.2.1, .int .i64 st.2.2.2.2.2, .int .i64 en.1, .int .i64 en.2.1, .int .i64 en.2.2.1, .int .i64 en.2.2.2.1, .int .i64 en.2.2.2.2.1, .int .i64 en.2.2.2.2.2]
def crule (std : ByteArray) (so : Int) (hd : Bool) (dst : ByteArray) (dof : Int) (st en : RD) : Array Value :=
 #[.string std, .int .i64 so, .bool hd, .string dst, .int .i64 dof, .int .i64 st.1, .int .i64 st.2.1, .int .i64 st.2.2.1, .int .i64 st.2.2.2.1, .int .i64 st.2.2.2.2.1, .int .i64 st.2.2.2.2.2, .int .i64 en.1, .int .i64 en.2.1, .int .i64 en.2.2.1, .int .i64 en.2.2.2.1, .int .i64 en.2.2.2.2.1, .int .i64 en.2.2.2.2.2]
theorem vrule_c (std : ByteArray) (so : Int) (hd : Bool) (dst : ByteArray) (dof : Int) (st en : RD) : vrule std so hd dst dof st en = .agg (crule std so hd dst dof st en) := rfl
def Gr (P : Program) (T : TypeId) (n : Nat) (cs : Array Value) : Prop := (P.info? T).map (·.size) = some cs.size ∧ cs.size = n ∧ cs.all (·.oneCell') = true
theorem gr_rule (std : ByteArray) (so : Int) (hd : Bool) (dst : ByteArray) (dof : Int) (st en : RD) : Gr Tryz.prog 51 17 (crule std so hd dst dof st en) :=
 ⟨by rw [show (crule std so hd dst dof st en).size = 17 from rfl]; kernel_rfl, rfl, by simp [crule, Value.oneCell']⟩
def ptRes (r : Except Nat PR) : Value :=
 match r with
 | .error a => .tuple #[vrule ⟨#[]⟩ 0 false ⟨#[]⟩ 0 rd0 rd0, .int .i64 14, .int .i64 a]
 | .ok r => .tuple #[vrule (mkS r.1) r.2.1 r.2.2.1 (mkS r.2.2.2.1) r.2.2.2.2.1 r.2.2.2.2.2.1 r.2.2.2.2.2.2, .int .i64 0, .int .i64 0]
def ptDayRes (r : Option (RD × Nat)) : Value :=
 match r with
 | none => .tuple #[vday rd0, .int .i64 0, .bool false]
 | some (d, n) => .tuple #[vday d, .int .i64 n, .bool true]
theorem cells6' {w : World} {g : Nat} {a b c d e f : Value} (h : Bx w g [a, b, c, d, e, f]) : w.cell? ⟨g, 0, none⟩ = some a ∧ w.cell? ⟨g, 1, none⟩ = some b ∧ w.cell? ⟨g, 2, none⟩ = some c ∧ w.cell? ⟨g, 3, none⟩ = some d ∧ w.cell? ⟨g, 4, none⟩ = some e ∧ w.cell? ⟨g, 5, none⟩ = some f :=
 ⟨h.2.1 0 _ rfl, h.2.1 1 _ rfl, h.2.1 2 _ rfl, h.2.1 3 _ rfl, h.2.1 4 _ rfl, h.2.1 5 _ rfl⟩
theorem prOk_len {r : PR} (h : prOk r) : (mkS r.1).size ≤ 255 ∧ (mkS r.2.2.2.1).size ≤ 255 := by
 obtain ⟨h1, h2, h3⟩ := h
 rw [size_mk, size_mk]
 refine ⟨(nameOk_iff.1 h1).2.1, ?_⟩
 split at h3
 ·exact (nameOk_iff.1 h3.1).2.1
 ·rw [h3.1]; simp
def flA (v : Int) (S S' : BkS) (f : ByteArray) : Array Value := #[.int .i64 v, .slice S.ti.A S.ti.n S.ti.c, .slice S.ix.A S.ix.n S.ix.c, .slice S.ty.A S.ty.n S.ty.c, .slice S.ch.A S.ch.n S.ch.c, .slice S.lp.A S.lp.n S.lp.c, .slice S.sd.A S.sd.n S.sd.c, .slice S.ut.A S.ut.n S.ut.c, .slice S'.ti.A S'.ti.n S'.ti.c, .slice S'.ix.A S'.ix.n S'.ix.c, .slice S'.ty.A S'.ty.n S'.ty.c, .slice S'.ch.A S'.ch.n S'.ch.c, .slice S'.lp.A S'.lp.n S'.lp.c, .slice S'.sd.A S'.sd.n S'.sd.c, .slice S'.ut.A S'.ut.n S'.ut.c, .string f]
theorem gr_file (v : Int) (S S' : BkS) (f : ByteArray) : Gr Tryz.prog 30 16 (flA v S S' f) :=
 ⟨by rw [show (flA v S S' f).size = 16 from rfl]; kernel_rfl, rfl, by simp [flA, Value.oneCell']⟩
theorem byt_nil (f : ByteArray) : f.toList.isEmpty = decide (byt f = []) := by
 rw [ByteArray.toList_eq]
 unfold byt
 cases f with
 | mk d => cases d with | mk l => cases l <;> simp
def dsA (x : Int) : Bool := decide (x = 43) || decide (x = 45) || (decide (48 ≤ x) && decide (x ≤ 57)) || (decide (65 ≤ x) && decide (x ≤ 90)) || (decide (97 ≤ x) && decide (x ≤ 122))
def dsG (x : Int) : Bool := decide (x = 0) || dsA x
def badL (xs : List Int) : Int := if (xs.takeWhile dsG).length < xs.length then ((xs.takeWhile dsG).length : Int) else if xs.getLast? = some 0 then -1 else xs.length
def nz (x : Int) : Bool := decide (¬ x = 0)
def nameL (xs : List Int) (i : Nat) : List Int := (xs.drop i).takeWhile nz
def bS (l : List Int) : ByteArray := mkS (l.map (fun x => UInt8.ofNat x.toNat))
def IsB (xs : List Int) : Prop := ∀ x ∈ xs, 0 ≤ x ∧ x < 256
theorem twi_facts (p : Int → Bool) (xs : List Int) : ∃ q, (xs.takeWhile p).length = q ∧ q ≤ xs.length ∧ (∀ k x, k < q → xs[k]? = some x → p x = true) ∧ (∀ x, xs[q]? = some x → p x = false) := by
 induction xs with
 | nil => exact ⟨0, rfl, Nat.le_refl _, fun k x h => by omega, fun x h => by simp at h⟩
 | cons a l ih =>
   obtain ⟨q, h1, h2, h3, h4⟩ := ih
   by_cases ha : p a = true
   ·refine ⟨q + 1, by rw [List.takeWhile_cons_of_pos ha]; simp [h1], by simp; omega, fun k x hk hx => ?_, fun x hx => h4 x (by simpa using hx)⟩
    cases k with
    | zero => simp at hx; subst hx; exact ha
    | succ k => exact h3 k x (by omega) (by simpa using hx)
   ·refine ⟨0, by rw [List.takeWhile_cons_of_neg ha]; rfl, by simp, fun k x hk => by omega, fun x hx => ?_⟩
    simp at hx
    subst hx
    simpa using ha
theorem badL_iff (xs : List Int) : badL xs = -1 ↔ (∀ x ∈ xs, dsG x = true) ∧ xs.getLast? = some 0 := by
 obtain ⟨q, h1, h2, h3, h4⟩ := twi_facts dsG xs
 unfold badL
 rw [h1]
 by_cases hq : q < xs.length
 ·rw [if_pos hq]
  refine ⟨fun h => by omega, fun h => ?_⟩
  have h5 : xs[q]? = some xs[q] := List.getElem?_eq_getElem hq
  have := h4 _ h5
  rw [h.1 _ (List.getElem_mem hq)] at this
  cases this
 ·rw [if_neg hq]
  have hall : ∀ x ∈ xs, dsG x = true := by
   intro x hx
   obtain ⟨k, hk, rfl⟩ := List.getElem_of_mem hx
   exact h3 k _ (by omega) (List.getElem?_eq_getElem hk)
  by_cases hl : xs.getLast? = some 0
  ·rw [if_pos hl]; exact ⟨fun _ => ⟨hall, hl⟩, fun _ => rfl⟩
  ·rw [if_neg hl]
   exact ⟨fun h => by omega, fun h => absurd h.2 hl⟩
def cntOk (b : Bk) : Bool := decide (b.ix.length = b.ti.length) && !decide (b.ty.length = 0) && !decide (b.ch.length = 0) && (decide (b.sd.length = 0) || decide (b.sd.length = b.ty.length)) && (decide (b.ut.length = 0) || decide (b.ut.length = b.ty.length))
def ixOk (n : Nat) (l : List Int) : Bool := l.all fun v => decide (v < (n : Int))
def vB (b : Bk) (four : Bool) (k : Nat) : Int :=
 if cntOk b = false then 6 else if fT k b.ti = false then 18 else if lfit k b.lp = false then 18 else if desc b.ti ≠ -1 then 7 else if ixOk b.ty.length b.ix = false then 8
 else if chk b.ty b.ch.length ≠ 0 then chk b.ty b.ch.length else if badL b.ch ≠ -1 then 11 else if vL b.lp four = false then 12 else if cn b.sd b.ut = false then 13 else 0
theorem lf_step (k : Nat) (ts : List LP) (i : Nat) (t : LP) (h : ts[i]? = some t) : lfit k (ts.take (i + 1)) = (lfit k (ts.take i) && fitsB k t.1) := by
 unfold lfit
 rw [List.take_add_one, h, List.all_append]
 simp
theorem lf_no {k : Nat} {ts : List LP} {i : Nat} {t : LP} (h : ts[i]? = some t) (hf : fitsB k t.1 = false) : lfit k ts = false := by
 rw [← Bool.not_eq_true]
 intro e
 have := List.all_eq_true.1 e t (List.mem_of_getElem? h)
 rw [hf] at this
 cases this
theorem ix_step (n : Nat) (l : List Int) (i : Nat) (x : Int) (h : l[i]? = some x) : ixOk n (l.take (i + 1)) = (ixOk n (l.take i) && decide (x < (n : Int))) := by
 unfold ixOk
 rw [List.take_add_one, h, List.all_append]
 simp
theorem ix_no {n : Nat} {l : List Int} {i : Nat} {x : Int} (h : l[i]? = some x) (hf : (n : Int) ≤ x) : ixOk n l = false := by
 rw [← Bool.not_eq_true]
 intro e
 have := List.all_eq_true.1 e x (List.mem_of_getElem? h)
 simp at this
 omega
structure BOk (b : Bk) (four : Bool) (k : Nat) : Prop where
 cnt : cntOk b = true
 ti : fT k b.ti = true
 lf : lfit k b.lp = true
 asc : desc b.ti = -1
 ix : ixOk b.ty.length b.ix = true
 ty : chk b.ty b.ch.length = 0
 ch : badL b.ch = -1
 lp : vL b.lp four = true
 cn : cn b.sd b.ut = true
theorem vB_iff (b : Bk) (four : Bool) (k : Nat) : vB b four k = 0 ↔ BOk b four k := by
 unfold vB
 constructor
 ·intro h
  repeat' (split at h; first | (exfalso; revert h; decide) | (exfalso; omega) | skip)
  rename_i h1 h2 h3 h4 h5 h6 h7 h8 h9
  exact ⟨by simpa using h1, by simpa using h2, by simpa using h3, by simpa using h4, by simpa using h5, by simpa using h6, by simpa using h7, by simpa using h8, by simpa using h9⟩
 ·rintro ⟨h1, h2, h3, h4, h5, h6, h7, h8, h9⟩
  simp [h1, h2, h3, h4, h5, h6, h7, h8, h9]
theorem BOk.le4 {b : Bk} {k : Nat} (h : BOk b false k) (four : Bool) : BOk b four k := by
 cases four
 ·exact h
 ·exact ⟨h.cnt, h.ti, h.lf, h.asc, h.ix, h.ty, h.ch, vL_34 h.lp, h.cn⟩
theorem lfit_8 {ts : List LP} (h : ∀ t ∈ ts, lpOk t) : lfit 8 ts = true := by
 unfold lfit fitsB
 rw [List.all_eq_true]
 intro t ht
 simp
theorem BOk.wide {b : Bk} {four : Bool} {k : Nat} (h : BOk b four k) (hb : b.ok) : BOk b four 8 := ⟨h.cnt, fT_8 _, lfit_8 hb.lp, h.asc, h.ix, h.ty, h.ch, h.lp, h.cn⟩
theorem BOk.bare {b : Bk} {four : Bool} {k : Nat} (h : BOk b four k) : BOk ⟨b.ti, b.ix, b.ty, b.ch, b.lp, [], []⟩ four k := by
 have hc := h.cnt
 refine ⟨?_, h.ti, h.lf, h.asc, h.ix, h.ty, h.ch, h.lp, rfl⟩
 unfold cntOk at hc ⊢
 simp at hc ⊢
 exact hc.1.1
theorem vL_take' {ts : List LP} {four : Bool} (h : vL ts four = true) {k : Nat} (hk : k < ts.length) : vL (ts.take k) four = true := by
 cases four
 ·refine vL_of fun i hi => ?_
  rw [List.length_take] at hi
  have hik : i < k := by omega
  have := vL_at h (show i < ts.length by omega)
  cases i with
  | zero => simp only [okL] at this ⊢; rw [la_take hik, lr_take hik]; exact this
  | succ j =>
    simp only [okL] at this ⊢
    rw [la_take hik, lr_take hik, la_take (by omega), lr_take (by omega)]
    simp at this ⊢
    exact this
 ·exact vL_take h hk
theorem all_take {α : Type} {p : α → Bool} {l : List α} (h : l.all p = true) (k : Nat) : (l.take k).all p = true := by
 rw [List.all_eq_true] at h ⊢
 exact fun x hx => h x (List.mem_of_mem_take hx)
theorem BOk.lessLeap {b : Bk} {four : Bool} {k : Nat} (h : BOk b four k) {m : Nat} (hm : m < b.lp.length) : BOk ⟨b.ti, b.ix, b.ty, b.ch, b.lp.take m, b.sd, b.ut⟩ four k :=
 ⟨h.cnt, h.ti, all_take h.lf m, h.asc, h.ix, h.ty, h.ch, vL_take' h.lp hm, h.cn⟩
theorem BOk.lessTime {b : Bk} {four : Bool} {k : Nat} (h : BOk b four k) (m : Nat) : BOk ⟨b.ti.take m, b.ix.take m, b.ty, b.ch, b.lp, b.sd, b.ut⟩ four k := by
 have hc := h.cnt
 refine ⟨?_, all_take h.ti m, h.lf, desc_asc (asc_take (asc_of_desc h.asc) m), all_take h.ix m, h.ty, h.ch, h.lp, h.cn⟩
 unfold cntOk at hc ⊢
 simp only [Bool.and_eq_true, decide_eq_true_eq] at hc ⊢
 obtain ⟨⟨⟨⟨h1, h2⟩, h3⟩, h4⟩, h5⟩ := hc
 exact ⟨⟨⟨⟨by rw [List.length_take, List.length_take, h1], h2⟩, h3⟩, h4⟩, h5⟩
theorem BOk.badIndex {b : Bk} {four : Bool} {k : Nat} (h : BOk b four k) {ix : List Int} (hl : ix.length = b.ix.length) {v : Int} (hv : v ∈ ix) (hn : (b.ty.length : Int) ≤ v) : vB ⟨b.ti, ix, b.ty, b.ch, b.lp, b.sd, b.ut⟩ four k = 8 := by
 have hc : cntOk ⟨b.ti, ix, b.ty, b.ch, b.lp, b.sd, b.ut⟩ = true := by
  have := h.cnt
  unfold cntOk at this ⊢
  dsimp only at this ⊢
  rw [hl]
  exact this
 have hi : ixOk b.ty.length ix = false := by
  rw [← Bool.not_eq_true]
  intro e
  have := List.all_eq_true.1 e v hv
  simp at this
  omega
 unfold vB
 simp only [hc, h.ti, h.lf, h.asc, hi]
 simp
abbrev bys (xs : List Int) : List Value := xs.map (Value.int .u8)
theorem rd_at {w : World} {A : Option Addr} {n : Nat} {xs : List Int} (h : Rd w A n (bys xs)) {i : Nat} (hi : i < n) : ∃ ad x, A = some ad ∧ xs[i]? = some x ∧ w.cell? (ad.add i) = some (.int .u8 x) := by
 obtain ⟨ad, v, h1, h2, h3⟩ := h.at_ hi
 rw [List.getElem?_map] at h2
 cases hx : xs[i]? with
 | none => rw [hx] at h2; simp at h2
 | some x => rw [hx] at h2; simp at h2; subst h2; exact ⟨ad, x, h1, rfl, h3⟩
namespace r12_
theorem Allowed (x : Int) (w : World) (h0 : 0 ≤ x) (h1 : x < 256) : Calls Tryz.prog 102 #[.int .u8 x] w fun e w' => e = .returned (.bool (dsA x)) ∧ w = w' := by
 rcases (show x = 43 ∨ x = 45 ∨ ((x == 43) = false ∧ (x == 45) = false ∧ x ≠ 43 ∧ x ≠ 45) by by_cases a : x = 43 <;> by_cases b : x = 45 <;> simp [a, b]) with rfl | rfl | ⟨a, b, c, d⟩
 ·go_enter Tryz.func102, Tryz.ntmps102
  go_wp2
  go_ret
  exact ⟨rfl, rfl⟩
 ·go_enter Tryz.func102, Tryz.ntmps102
  go_wp2
  go_ret
  exact ⟨rfl, rfl⟩
 ·go_enter Tryz.func102, Tryz.ntmps102
  go_wp2
  all_goals go_ret
  all_goals
   refine ⟨retb ?_, rfl⟩
   unfold dsA
   rw [Bool.eq_iff_iff]
   simp [c, d]
   try omega
theorem Bad (A : Option Addr) (n c : Nat) (xs : List Int) (w : World) (hr : Rd w A n (bys xs)) (hb : IsB xs) (hn : n ≤ 9223372036854775807) :
 Calls Tryz.prog 66 #[.slice A n c] w fun e w' => e = .returned (.int .i64 (badL xs)) ∧ w = w' := by
 have hlen : xs.length = n := by have := hr.len; simpa using this
 obtain ⟨q, h1, h2, h3, h4⟩ := twi_facts dsG xs
 have hbad := hide (show badL xs = if q < n then (q : Int) else if xs.getLast? = some 0 then -1 else n by unfold badL; rw [h1, hlen])
 generalize badL xs = z at *
 have Al := hide (fun x w h0 h1 => Allowed x w h0 h1)
 have hR := hide hr
 have h3' := hide h3
 have h4' := hide h4
 have hb' := hide hb
 have hl' := hide hlen
 rw [hlen] at h2
 clear h1 h3 h4 hr hb hlen
 go_enter Tryz.func66, Tryz.ntmps66
 go_wp2
 go_loop [3] (fun iv => ∃ i : Nat, iv = .int .i64 i ∧ i ≤ q) (fun iv => n + 1 - (intOf iv).toNat)
 case atStart => exact ⟨0, rfl, Nat.zero_le _⟩
 case round =>
  obtain ⟨i, rfl, hi⟩ := hrel
  by_cases hlt : i < n
  ·have dl : decide ((i : Int) < (n : Int)) = true := by simpa using hlt
   have dl2 : (i : Int) < (n : Int) := by omega
   obtain ⟨ad, x, rfl, hx, hc⟩ := rd_at hR.out hlt
   obtain ⟨x0, x1⟩ := hb'.out x (List.mem_of_getElem? hx)
   have Ax := hide (fun w => Al.out x w x0 x1)
   by_cases hiq : i < q
   ·have hg := h3'.out i x hiq hx
    unfold dsG at hg
    rcases (show x = 0 ∨ ((x == 0) = false ∧ dsA x = true) by by_cases e : x = 0 <;> simp_all) with rfl | ⟨e, hA⟩
    ·clear hx hg
     go_wp2_with fail
     go_round
     case rel => exact ⟨i + 1, by go_num, by omega⟩
     case measure => simp [intOf]; omega
    ·rw [hA] at Ax
     have e' : (x != 0) = true := by simpa using e
     clear hx hg hA
     go_wp2_with fail
     refine (Ax.out _).mono ?_
     rintro e w' ⟨rfl, rfl⟩
     go_wp2_with fail
     go_round
     case rel => exact ⟨i + 1, by go_num, by omega⟩
     case measure => simp [intOf]; omega
   ·obtain rfl : i = q := by omega
    have hg := h4'.out x hx
    unfold dsG at hg
    obtain ⟨e, hA⟩ := (show (x == 0) = false ∧ dsA x = false by simpa using hg)
    rw [hA] at Ax
    have e' : (x != 0) = true := by simpa using e
    clear hx hg hA
    go_wp2_with fail
    refine (Ax.out _).mono ?_
    rintro e w' ⟨rfl, rfl⟩
    go_wp2_with fail
    go_ret
    exact ⟨reti (by rw [hbad.out, if_pos hlt]), rfl⟩
  ·obtain rfl : i = n := by omega
   obtain rfl : i = q := by omega
   have dl : decide ((i : Int) < (i : Int)) = false := by simp
   by_cases h0 : 0 < i
   ·have d0 : decide (0 < (i : Int)) = true := by simpa using h0
    obtain ⟨ad, x, rfl, hx, hc⟩ := rd_at hR.out (show i - 1 < i by omega)
    have hla : xs.getLast? = some x := by rw [List.getLast?_eq_getElem?, hl'.out, hx]
    have hla' := hide hla
    have ei : IntKind.i64.wrap ((i : Int) - 1) = ((i - 1 : Nat) : Int) := by rw [IntKind.wrap_i64]; omega
    have ej : ((i - 1 : Nat) : Int) < (i : Int) := by omega
    by_cases hz : x = 0
    ·subst hz
     clear hx hla
     go_wp2_with fail
     go_ret
     exact ⟨reti (by rw [hbad.out, if_neg (by omega), if_pos hla'.out]), rfl⟩
    ·have e : (x == 0) = false := by simpa using hz
     clear hx hla
     go_wp2_with fail
     go_ret
     exact ⟨reti (by rw [hbad.out, if_neg (by omega), if_neg (by rw [hla'.out]; simpa using hz)]), rfl⟩
   ·obtain rfl : i = 0 := by omega
    have hl2 : xs = [] := List.eq_nil_of_length_eq_zero hl'.out
    subst hl2
    go_wp2_with fail
    go_ret
    exact ⟨reti (by rw [hbad.out, if_neg (by omega), if_neg (by simp)]; rfl), rfl⟩
theorem Valid (A : Option Addr) (n c : Nat) (xs : List Int) (w : World) (hr : Rd w A n (bys xs)) (hb : IsB xs) (hn : n ≤ 9223372036854775807) :
 Calls Tryz.prog 27 #[.slice A n c] w fun e w' => e = .returned (.bool (decide (badL xs = -1))) ∧ w = w' := by
 have B := hide (fun w hr => Bad A n c xs w hr hb hn)
 have hr' := hide hr
 clear hr
 by_cases h : badL xs = -1
 ·rw [h] at B
  go_enter Tryz.func27, Tryz.ntmps27
  go_wp2_with (go_at_call 66; refine (B.out _ hr'.out).mono ?_; rintro e w' ⟨rfl, rfl⟩)
  go_ret
  exact ⟨by simp [h], rfl⟩
 ·have e : (badL xs == -1) = false := by simpa using h
  have hd : decide (badL xs = -1) = false := by simpa using h
  rw [hd]
  generalize badL xs = z at *
  clear h hd
  go_enter Tryz.func27, Tryz.ntmps27
  go_wp2_with (go_at_call 66; refine (B.out _ hr'.out).mono ?_; rintro e w' ⟨rfl, rfl⟩)
  go_ret
  exact ⟨rfl, rfl⟩
end r12_
theorem elU8 : ElT Tryz.prog 23 5 (.int .u8 0) 1 := ⟨Tryz.underlying23, by kernel_rfl, rfl⟩
namespace be_
theorem isWidth (n : Int) (w : World) (h : n = 1 ∨ n = 4 ∨ n = 8) : Calls Tryz.prog 149 #[.int .i64 n] w fun e w' => e = .returned (.bool true) ∧ w = w' := by
 rcases h with rfl | rfl | rfl
 all_goals
  go_enter Tryz.func149, Tryz.ntmps149
  go_wp2
  go_ret
  exact ⟨rfl, rfl⟩
theorem signed (u : Int) (k : Int) (w : World) (h0 : 0 ≤ u) (h1 : u < 18446744073709551616) (hn : k = 1 ∨ k = 4 ∨ k = 8) :
 Calls Tryz.prog 150 #[.int .u64 u, .int .i64 k] w fun e w' => e = .returned (.int .i64 (sgn k u)) ∧ w = w' := by
 rcases hn with rfl | rfl | rfl
 all_goals
  go_enter Tryz.func150, Tryz.ntmps150
  go_wp2
  go_ret
  refine ⟨reti ?_, rfl⟩
  simp [sgn, wrap64, IntKind.wrap, IntKind.bits, IntKind.signed] <;> omega
theorem Fits (v k : Int) (w : World) (h : k = 1 ∨ k = 4 ∨ k = 8) (hv0 : -9223372036854775808 ≤ v) (hv1 : v < 9223372036854775808) :
 Calls Tryz.prog 125 #[.int .i64 v, .int .i64 k] w fun e w' => e = .returned (.bool (fitsB k v)) ∧ w = w' := by
 have hw0 : 0 ≤ IntKind.u64.wrap v ∧ IntKind.u64.wrap v < 18446744073709551616 := by rw [IntKind.wrap_u64]; omega
 have hfin : (sgn k (IntKind.u64.wrap v) == v) = fitsB k v := by
  rw [IntKind.wrap_u64, Bool.eq_iff_iff, beq_iff_eq]
  unfold fitsB
  simp only [decide_eq_true_eq]
  rcases h with rfl | rfl | rfl <;> simp [sgn] <;> omega
 obtain ⟨u0, u1⟩ := hw0
 have H := hide h; clear h
 have S := hide (fun w => signed (IntKind.u64.wrap v) k w u0 u1 H.out)
 have HF := hide hfin; clear hfin u0 u1
 go_enter Tryz.func125, Tryz.ntmps125
 go_wp2_with (first
  | (go_at_call 149; refine (isWidth _ _ H.out).mono ?_; rintro e w' ⟨rfl, rfl⟩)
  | (go_at_call 150; refine (S.out _).mono ?_; rintro e w' ⟨rfl, rfl⟩))
 go_ret
 exact ⟨retb HF.out, rfl⟩
end be_
namespace r1_
theorem Same2 (A A' : Option Addr) (n c c' : Nat) (l l' : List Int) (w : World) (hn : n ≤ 9223372036854775807) (hr : Rd w A n (l.map (Value.int .u8))) (hr' : Rd w A' n (l'.map (Value.int .u8))) :
 Calls Tryz.prog 41 #[.slice A n c, .slice A' n c'] w fun e w' => e = .returned (.bool (decide (l = l'))) ∧ ∃ q, w' = w.drewN q := by
 have hl : l.length = n := by have := hr.len; simpa using this
 have hl' : l'.length = n := by have := hr'.len; simpa using this
 obtain ⟨b, hb⟩ : ∃ b, b = decide (l = l') := ⟨_, rfl⟩
 rw [← hb]
 have HB := hide hb
 have HL := hide hl
 have HL' := hide hl'
 clear hb hl hl'
 go_enter Tryz.func41, Tryz.ntmps41
 go_wp2
 go_loopw [5] (fun i wr => ∃ k q : Nat, k ≤ n ∧ i = .int .i64 (k : Nat) ∧ Hid (l.take k = l'.take k) ∧ Hid (wr = w.drewN q)) (fun i _ => n - (intOf i).toNat)
 case atStart => exact ⟨0, 0, by omega, rfl, hide rfl, hide (by simp [World.drewN_zero])⟩
 case round =>
  obtain ⟨k, q, hk, rfl, ht, hw⟩ := hrel
  by_cases hlt : k < n
  ·obtain ⟨ad, e1, hc⟩ := (show Rd wr A n (l.map (Value.int .u8)) by rw [hw.out]; exact hr.drewN q).int hlt
   obtain ⟨ad', e2, hc'⟩ := (show Rd wr A' n (l'.map (Value.int .u8)) by rw [hw.out]; exact hr'.drewN q).int hlt
   subst e1 e2
   have x1 : l[k]? = some (l[k]?.getD 0) := by rw [List.getElem?_eq_getElem (by rw [HL.out]; exact hlt)]; rfl
   have x2 : l'[k]? = some (l'[k]?.getD 0) := by rw [List.getElem?_eq_getElem (by rw [HL'.out]; exact hlt)]; rfl
   generalize l[k]?.getD 0 = x at *
   generalize l'[k]?.getD 0 = y at *
   by_cases hxy : x = y
   ·subst hxy
    have hs := hide (show l.take (k + 1) = l'.take (k + 1) by rw [List.take_add_one, List.take_add_one, ht.out, x1, x2])
    clear x1 x2
    go_wp2
    go_quiet (fail)
    go_wp2
    go_roundw
    case rel => exact ⟨k + 1, _, by omega, by go_num, hs, hide (by rw [hw.out, World.drewN_drewN])⟩
    case measure => simp [intOf]; omega
   ·have hn : (x != y) = true := by simpa using hxy
    have hne : b = false := by
     rw [HB.out]
     exact decide_eq_false (fun h => by rw [h, x2] at x1; injection x1 with x1; exact hxy x1.symm)
    subst hne
    clear x1 x2
    go_wp2
    go_quiet (fail)
    go_wp2
    go_ret
    exact ⟨rfl, _, by rw [hw.out, World.drewN_drewN]⟩
  ·obtain rfl : k = n := by omega
   have hne : b = true := by
    rw [HB.out]
    refine decide_eq_true ?_
    have := ht.out
    rwa [List.take_of_length_le (by rw [HL.out]; omega), List.take_of_length_le (by rw [HL'.out]; omega)] at this
   subst hne
   go_wp2
   go_ret
   exact ⟨rfl, _, hw.out⟩
theorem SameG (A A' : Option Addr) (n n' c c' : Nat) (l l' : List Int) (w : World) (hn : n ≤ 9223372036854775807) (hn' : n' ≤ 9223372036854775807) (hr : Rd w A n (l.map (Value.int .u8))) (hr' : Rd w A' n' (l'.map (Value.int .u8))) :
 Calls Tryz.prog 41 #[.slice A n c, .slice A' n' c'] w fun e w' => e = .returned (.bool (decide (l = l'))) ∧ Below w.heap.size w w' := by
 by_cases h : n = n'
 ·subst h
  refine (Same2 A A' n c c' l l' w hn hr hr').mono ?_
  rintro e w' ⟨rfl, q, rfl⟩
  exact ⟨rfl, bel_drewN (bl_refl _) _⟩
 ·have hl : l.length = n := by have := hr.len; simpa using this
  have hl' : l'.length = n' := by have := hr'.len; simpa using this
  rw [show decide (l = l') = false from decide_eq_false fun e => h (by rw [← hl, ← hl', e])]
  have hne : ((n : Int) != n') = true := by simp; omega
  clear hl hl' hr hr'
  go_enter Tryz.func41, Tryz.ntmps41
  go_wp2
  go_ret
  exact ⟨rfl, bl_refl _⟩
end r1_
end Go.Proofs.YtbehflfpdkedgaaGreatDoor
