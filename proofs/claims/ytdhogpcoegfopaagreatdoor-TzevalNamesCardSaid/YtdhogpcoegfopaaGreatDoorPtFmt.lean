/-
  PLAIN MATHEMATICS of POSIX TZ rules: parsing what was put together. No program.
-/
import Derived.Test.YtdhogpcoegfopaaGreatDoorPt
namespace Go.Proofs.YtdhogpcoegfopaaGreatDoor
open Go.RowKit
set_option linter.unusedVariables false
set_option maxRecDepth 100000
/-- a number of at most three digits. -/
def decF (v : Int) : List UInt8 := if v < 10 then [dg v] else if v < 100 then [dg (v / 10), dg (v % 10)] else [dg (v / 100), dg (v / 10 % 10), dg (v % 10)]
theorem decF_is {v : Int} (h0 : 0 ≤ v) (h1 : v ≤ 999) : (∀ c ∈ decF v, dig c = true) ∧ dval (decF v) = v ∧ 1 ≤ (decF v).length ∧ (decF v).length ≤ 3 := by
  unfold decF
  by_cases a : v < 10
  · rw [if_pos a]
    have e := dg_toNat (x := v) h0 (by omega)
    refine ⟨by intro c hc; simp at hc; subst hc; exact dig_dg h0 (by omega), ?_, by simp, by simp⟩
    unfold dval
    simp only [List.foldl_cons, List.foldl_nil, e]
    omega
  · rw [if_neg a]
    by_cases b : v < 100
    · rw [if_pos b]
      have e := dg_toNat (x := v / 10) (by omega) (by omega)
      have e2 := dg_toNat (x := v % 10) (by omega) (by omega)
      refine ⟨?_, ?_, by simp, by simp⟩
      · intro c hc
        simp at hc
        rcases hc with rfl | rfl
        · exact dig_dg (by omega) (by omega)
        · exact dig_dg (by omega) (by omega)
      · unfold dval
        simp only [List.foldl_cons, List.foldl_nil, e, e2]
        omega
    · rw [if_neg b]
      have e := dg_toNat (x := v / 100) (by omega) (by omega)
      have e2 := dg_toNat (x := v / 10 % 10) (by omega) (by omega)
      have e3 := dg_toNat (x := v % 10) (by omega) (by omega)
      refine ⟨?_, ?_, by simp, by simp⟩
      · intro c hc
        simp at hc
        rcases hc with rfl | rfl | rfl
        · exact dig_dg (by omega) (by omega)
        · exact dig_dg (by omega) (by omega)
        · exact dig_dg (by omega) (by omega)
      · unfold dval
        simp only [List.foldl_cons, List.foldl_nil, e, e2, e3]
        omega
/-- the list is at its end, or no digit follows. -/
def nstop (l : List UInt8) : Prop := l = [] ∨ ∃ c t, l = c :: t ∧ dig c = false
theorem ptNum_dec {v : Int} {tail : List UInt8} (h0 : 0 ≤ v) (h1 : v ≤ 999) (ht : nstop tail) : ptNum (decF v ++ tail) = some (v, (decF v).length) := by
  obtain ⟨a, b, c, d⟩ := decF_is h0 h1
  unfold ptNum
  rw [tw_app' a ht, if_pos ⟨c, d⟩, b]
theorem ptNumP_dec {v : Int} {tail : List UInt8} (h0 : 0 ≤ v) (h1 : v ≤ 999) : ptNumP (decF v ++ 46 :: tail) = some (v, (decF v).length + 1) := by
  unfold ptNumP
  rw [ptNum_dec h0 h1 (.inr ⟨46, tail, rfl, rfl⟩)]
  simp only
  rw [show (decF v ++ 46 :: tail).drop (decF v).length = 46 :: tail by simp]
  simp only
  rw [if_pos (show ((46 : UInt8).toNat : Int) = 46 from rfl)]
theorem decF_head {v : Int} (h0 : 0 ≤ v) (h1 : v ≤ 999) : ∃ c t, decF v = c :: t ∧ dig c = true := by
  obtain ⟨a, b, c, d⟩ := decF_is h0 h1
  cases h : decF v with
  | nil => rw [h] at c; simp at c
  | cons x t => exact ⟨x, t, rfl, a x (by rw [h]; simp)⟩
/-- the day without its time. -/
def dayCore (d : RD) : List UInt8 := if d.1 = 1 then 74 :: decF d.2.1 else if d.1 = 3 then 77 :: (decF d.2.2.1 ++ 46 :: (decF d.2.2.2.1 ++ 46 :: decF d.2.2.2.2.1)) else decF d.2.1
def dayF (d : RD) : List UInt8 := dayCore d ++ 47 :: hmsFmt d.2.2.2.2.2
theorem ptHead_core {d : RD} {tail : List UInt8} (hd : rdOk d) (ht : nstop tail) : ptHead (dayCore d ++ tail) = some ((d.1, d.2.1, d.2.2.1, d.2.2.2.1, d.2.2.2.2.1), (dayCore d).length) := by
  obtain ⟨K, D, M, Wk, Wd, T⟩ := d
  obtain ⟨_, _, ⟨h1, h2, h3, h4, h5, h6⟩ | ⟨h1, h2, h3, h4, h5, h6⟩ | ⟨h1, h2, h3, h4, h5, h6, h7, h8⟩⟩ := hd
  all_goals simp only at h1 h2 h3 h4 h5 h6
  · subst h1 h4 h5 h6
    have e : dayCore (1, D, 0, 0, 0, T) = 74 :: decF D := by unfold dayCore; simp
    rw [e, List.cons_append]
    unfold ptHead
    simp only
    rw [if_pos (show ((74 : UInt8).toNat : Int) = 74 from rfl), ptNum_dec (by omega) (by omega) ht]
    simp
    omega
  · subst h1 h4 h5 h6
    have e : dayCore (2, D, 0, 0, 0, T) = decF D := by unfold dayCore; simp
    rw [e]
    obtain ⟨c, t, hc, hdc⟩ := decF_head (v := D) (by omega) (by omega)
    have en := ptNum_dec (v := D) (tail := tail) (by omega) (by omega) ht
    have hb := r8_.dig_bd hdc
    rw [hc, List.cons_append] at en ⊢
    unfold ptHead
    simp only
    rw [if_neg (by omega), if_neg (by omega), en]
  · simp only at h7 h8
    subst h1 h2
    have e : dayCore (3, 0, M, Wk, Wd, T) = 77 :: (decF M ++ 46 :: (decF Wk ++ 46 :: decF Wd)) := by unfold dayCore; simp
    rw [e, List.cons_append]
    unfold ptHead
    simp only
    have e1 : decF M ++ 46 :: (decF Wk ++ 46 :: decF Wd) ++ tail = decF M ++ 46 :: (decF Wk ++ 46 :: (decF Wd ++ tail)) := by simp
    rw [if_neg (show ¬ ((77 : UInt8).toNat : Int) = 74 by decide), if_pos (show ((77 : UInt8).toNat : Int) = 77 from rfl), e1, ptNumP_dec (by omega) (by omega)]
    simp only
    have e2 : (decF M ++ 46 :: (decF Wk ++ 46 :: (decF Wd ++ tail))).drop ((decF M).length + 1) = decF Wk ++ 46 :: (decF Wd ++ tail) := by
      rw [← List.drop_drop]
      simp
    rw [e2, ptNumP_dec (by omega) (by omega)]
    simp only
    have e3 : (decF M ++ 46 :: (decF Wk ++ 46 :: (decF Wd ++ tail))).drop ((decF M).length + 1 + ((decF Wk).length + 1)) = decF Wd ++ tail := by
      rw [← List.drop_drop, e2, ← List.drop_drop]
      simp
    rw [e3, ptNum_dec (by omega) (by omega) ht]
    simp
    omega
theorem dayF_len {d : RD} (hd : rdOk d) : (dayF d).length ≤ 100 := by
  obtain ⟨K, D, M, Wk, Wd, T⟩ := d
  obtain ⟨t0, t1, hk⟩ := hd
  simp only at t0 t1 hk
  have h1 := (hmsFmt_len (x := T) (by omega) (by omega)).2
  have h2 := (decF_is (v := D) (by omega) (by omega)).2.2.2
  have h3 := (decF_is (v := M) (by omega) (by omega)).2.2.2
  have h4 := (decF_is (v := Wk) (by omega) (by omega)).2.2.2
  have h5 := (decF_is (v := Wd) (by omega) (by omega)).2.2.2
  unfold dayF dayCore
  simp only [List.length_append, List.length_cons]
  split
  · simp; omega
  · split
    · simp; omega
    · omega
theorem drop_app (a b : List UInt8) : (a ++ b).drop a.length = b := by simp
/-- a day with its time. -/
theorem ptDay_full {d : RD} {tail : List UInt8} (hd : rdOk d) (ht : hstop tail) : ptDay (dayF d ++ tail) = some (d, (dayF d).length) := by
  have h1 : -604800 < d.2.2.2.2.2 := by have := hd.1; omega
  have h2 : d.2.2.2.2.2 < 604800 := by have := hd.2.1; omega
  unfold dayF
  rw [List.append_assoc, List.cons_append]
  unfold ptDay
  rw [ptHead_core hd (.inr ⟨47, _, rfl, rfl⟩)]
  simp only [drop_app]
  rw [if_pos (show ((47 : UInt8).toNat : Int) = 47 from rfl), parse_fmt tail h1 h2 ht]
  simp only
  rw [if_pos (show rdOk (ptMk (d.1, d.2.1, d.2.2.1, d.2.2.2.1, d.2.2.2.2.1) d.2.2.2.2.2) from hd)]
  simp [ptMk]
  omega
/-- a day without a time. -/
theorem ptDay_core {d : RD} {tail : List UInt8} (hd : rdOk d) (ht : tail = [] ∨ ∃ c t, tail = c :: t ∧ dig c = false ∧ ¬ (c.toNat : Int) = 47) (h7200 : d.2.2.2.2.2 = 7200) : ptDay (dayCore d ++ tail) = some (d, (dayCore d).length) := by
  have hn : nstop tail := by
    rcases ht with h | ⟨c, t, h, h', _⟩
    · exact .inl h
    · exact .inr ⟨c, t, h, h'⟩
  obtain ⟨K, D, M, Wk, Wd, T⟩ := d
  simp only at h7200
  subst h7200
  unfold ptDay
  rw [ptHead_core hd hn]
  simp only [drop_app]
  rcases ht with rfl | ⟨c, t, rfl, _, h47⟩
  · simp only
    rw [if_pos (show rdOk (ptMk (K, D, M, Wk, Wd) 7200) from hd)]
    rfl
  · simp only
    rw [if_neg h47, if_pos (show rdOk (ptMk (K, D, M, Wk, Wd) 7200) from hd)]
    rfl
theorem hstop44 (t : List UInt8) : hstop (44 :: t) := .inr ⟨44, t, rfl, rfl, by decide⟩
/-- two days behind their commas. -/
theorem ptDays_of {l X Y : List UInt8} {a : Nat} {st en : RD} {std dst : List UInt8} {so dof : Int} (h : l.drop a = 44 :: (X ++ 44 :: Y)) (hX : ptDay (X ++ 44 :: Y) = some (st, X.length)) (hY : ptDay Y = some (en, Y.length)) (ho : offOk dof) :
    ptDays l a std so dst dof = .ok (std, so, true, dst, dof, st, en) := by
  have hl := congrArg List.length h
  simp at hl
  have e1 : ptComma l a = .ok (st, a + 1 + X.length) := by
    unfold ptComma
    rw [h]
    simp only
    rw [if_pos (show ((44 : UInt8).toNat : Int) = 44 from rfl), hX]
  have h2 : l.drop (a + 1 + X.length) = 44 :: Y := by
    rw [← List.drop_drop, ← List.drop_drop, h]
    simp
  have e2 : ptComma l (a + 1 + X.length) = .ok (en, a + 1 + X.length + 1 + Y.length) := by
    unfold ptComma
    rw [h2]
    simp only
    rw [if_pos (show ((44 : UInt8).toNat : Int) = 44 from rfl), hY]
  unfold ptDays
  rw [e1]
  simp only
  rw [e2]
  simp only
  rw [if_pos ⟨by omega, ho⟩]
theorem drop_q (n R : List UInt8) : (60 :: (n ++ 62 :: R)).drop (n.length + 2) = R := by
  rw [show n.length + 2 = 1 + (n.length + 1) by omega, ← List.drop_drop, ← List.drop_drop]
  simp
theorem fmt_head {x : Int} (h0 : -604800 < x) (h1 : x < 604800) (t : List UInt8) : ∃ c u, hmsFmt x ++ t = c :: u ∧ alpha c = false := by
  unfold hmsFmt
  split
  · exact ⟨45, _, rfl, rfl⟩
  · obtain ⟨c, u, e, hc⟩ := abs_head (x := x) (by omega) h1
    refine ⟨c, u ++ t, by rw [e]; rfl, ?_⟩
    have := r8_.dig_bd hc
    unfold alpha alphaI
    simp
    omega
theorem tnFmt_len1 {n : List UInt8} (hn : nameOk n = true) : 1 ≤ (tnFmt n).length := by
  have := (nameOk_iff.1 hn).1
  unfold tnFmt
  split
  · omega
  · simp
theorem tnFmt_head {n : List UInt8} (hn : nameOk n = true) (t : List UInt8) : hstop (tnFmt n ++ t) := by
  have h := nameOk_iff.1 hn
  unfold tnFmt
  split
  · rename_i hl
    have ha := tw_all hl
    cases n with
    | nil => simp at h
    | cons a m =>
      have hb := ha a (by simp)
      refine .inr ⟨a, m ++ t, rfl, ?_, ?_⟩
      · unfold alpha alphaI at hb
        unfold dig
        simp at hb ⊢
        omega
      · unfold alpha alphaI at hb
        simp at hb
        omega
  · exact .inr ⟨60, _, rfl, rfl, by decide⟩
/-- a rule without daylight saving time. -/
theorem ptParse_std {n : List UInt8} {a : Int} (hn : nameOk n = true) (ha : offOk a) : ptParse (60 :: (n ++ 62 :: hmsFmt a)) = .ok (n, -a, false, [], 0, rd0, rd0) := by
  have h1 : -604800 < a := by have := ha.1; omega
  have h2 : a < 604800 := by have := ha.2; omega
  unfold ptParse
  rw [tnParse_q n _ hn]
  simp only
  have e := parse_fmt [] h1 h2 hstop_nil
  rw [List.append_nil] at e
  rw [drop_q, e]
  simp only
  rw [if_pos ha, if_pos (by simp; omega)]
/-- a rule with it; the daylight saving designation's form is F. -/
theorem ptParse_dst {n F m X Y : List UInt8} {a b : Int} {st en : RD} (hn : nameOk n = true) (ha : offOk a) (hF : ∀ t, (∃ c u, t = c :: u ∧ alpha c = false) → tnParse (F ++ t) = some (m, F.length)) (hFs : ∀ t, hstop (F ++ t)) (hF1 : 1 ≤ F.length)
    (hb : offOk b) (hX : ptDay (X ++ 44 :: Y) = some (st, X.length)) (hY : ptDay Y = some (en, Y.length)) :
    ptParse (60 :: (n ++ 62 :: (hmsFmt a ++ (F ++ (hmsFmt b ++ 44 :: (X ++ 44 :: Y)))))) = .ok (n, -a, true, m, -b, st, en) := by
  have h1 : -604800 < a := by have := ha.1; omega
  have h2 : a < 604800 := by have := ha.2; omega
  have h3 : -604800 < b := by have := hb.1; omega
  have h4 : b < 604800 := by have := hb.2; omega
  obtain ⟨l, hl⟩ : ∃ l, l = 60 :: (n ++ 62 :: (hmsFmt a ++ (F ++ (hmsFmt b ++ 44 :: (X ++ 44 :: Y))))) := ⟨_, rfl⟩
  rw [← hl]
  have e1 : tnParse l = some (n, n.length + 2) := by rw [hl]; exact tnParse_q n _ hn
  have d1 : l.drop (n.length + 2) = hmsFmt a ++ (F ++ (hmsFmt b ++ 44 :: (X ++ 44 :: Y))) := by rw [hl, drop_q]
  have d2 : l.drop (n.length + 2 + (hmsFmt a).length) = F ++ (hmsFmt b ++ 44 :: (X ++ 44 :: Y)) := by rw [← List.drop_drop, d1, drop_app]
  have d3 : l.drop (n.length + 2 + (hmsFmt a).length + F.length) = hmsFmt b ++ 44 :: (X ++ 44 :: Y) := by rw [← List.drop_drop, d2, drop_app]
  have d4 : l.drop (n.length + 2 + (hmsFmt a).length + F.length + (hmsFmt b).length) = 44 :: (X ++ 44 :: Y) := by rw [← List.drop_drop, d3, drop_app]
  have hlen := congrArg List.length d2
  simp at hlen
  unfold ptParse
  rw [e1]
  simp only
  rw [d1, parse_fmt _ h1 h2 (hFs _)]
  simp only
  rw [if_pos ha, if_neg (by omega), d2, hF _ (fmt_head h3 h4 _)]
  simp only
  rw [d3, parse_fmt _ h3 h4 (hstop44 _)]
  simp only
  rw [if_pos hb, ptDays_of d4 hX hY (by unfold offOk at hb ⊢; omega)]
/-- a rule with it, its offset left out. -/
theorem ptParse_dflt {n F m X Y : List UInt8} {a : Int} {st en : RD} (hn : nameOk n = true) (ha : offOk a) (hF : ∀ t, (∃ c u, t = c :: u ∧ alpha c = false) → tnParse (F ++ t) = some (m, F.length)) (hFs : ∀ t, hstop (F ++ t)) (hF1 : 1 ≤ F.length)
    (hb : offOk (-a + 3600)) (hX : ptDay (X ++ 44 :: Y) = some (st, X.length)) (hY : ptDay Y = some (en, Y.length)) :
    ptParse (60 :: (n ++ 62 :: (hmsFmt a ++ (F ++ 44 :: (X ++ 44 :: Y))))) = .ok (n, -a, true, m, -a + 3600, st, en) := by
  have h1 : -604800 < a := by have := ha.1; omega
  have h2 : a < 604800 := by have := ha.2; omega
  obtain ⟨l, hl⟩ : ∃ l, l = 60 :: (n ++ 62 :: (hmsFmt a ++ (F ++ 44 :: (X ++ 44 :: Y)))) := ⟨_, rfl⟩
  rw [← hl]
  have e1 : tnParse l = some (n, n.length + 2) := by rw [hl]; exact tnParse_q n _ hn
  have d1 : l.drop (n.length + 2) = hmsFmt a ++ (F ++ 44 :: (X ++ 44 :: Y)) := by rw [hl, drop_q]
  have d2 : l.drop (n.length + 2 + (hmsFmt a).length) = F ++ 44 :: (X ++ 44 :: Y) := by rw [← List.drop_drop, d1, drop_app]
  have d3 : l.drop (n.length + 2 + (hmsFmt a).length + F.length) = 44 :: (X ++ 44 :: Y) := by rw [← List.drop_drop, d2, drop_app]
  have hlen := congrArg List.length d2
  simp at hlen
  have e44 : hmsParse (44 :: (X ++ 44 :: Y)) = none := rfl
  unfold ptParse
  rw [e1]
  simp only
  rw [d1, parse_fmt _ h1 h2 (hFs _)]
  simp only
  rw [if_pos ha, if_neg (by omega), d2, hF _ ⟨44, _, rfl, rfl⟩]
  simp only
  rw [d3, e44]
  simp only
  exact ptDays_of d3 hX hY hb
end Go.Proofs.YtdhogpcoegfopaaGreatDoor
