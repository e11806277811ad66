/-
  Texts of mine in one file: Ref9e. Their conditions stand in the theorems.
-/
import Derived.Test.YtbehflfpdkedgaaGreatDoorQ37
namespace Go.Proofs.YtbehflfpdkedgaaGreatDoor
set_option linter.unusedVariables false
set_option linter.unusedSimpArgs false
set_option maxRecDepth 100000
set_option maxHeartbeats 16000000
open Go.ChangeShapes Go.WideShapes Go.ChangeAt Go.RowKit
theorem byt_rest (s : ByteArray) (n : Nat) : byt (s.extract n s.size) = (byt s).drop n := by
 rw [byt_extract, List.take_of_length_le (by rw [len_byt]; exact Nat.le_refl _)]
theorem byte_bd (c : UInt8) : 0 ≤ (c.toNat : Int) ∧ (c.toNat : Int) ≤ 255 := by have := c.toNat_lt; omega
theorem tl_of {s : ByteArray} {a b c d e : Int} {n : Nat} (hh : ptHead (byt s) = some ((a, b, c, d, e), n)) : Tl s n a b c d e (ptDayRes (ptDay (byt s))) := by
 have hR : ptDay (byt s) = match (byt s).drop n with
  | [] => if rdOk (a, b, c, d, e, 7200) then some ((a, b, c, d, e, 7200), n) else none
  | x :: t => if (x.toNat : Int) = 47 then (match hmsParse t with
   | none => none
   | some (v, k) => if rdOk (a, b, c, d, e, v) then some ((a, b, c, d, e, v), n + 1 + k) else none)
    else if rdOk (a, b, c, d, e, 7200) then some ((a, b, c, d, e, 7200), n) else none := by
  unfold ptDay
  rw [hh]
  rfl
 have fin : ∀ (v : Int) (m : Nat), ∃ q, decide (RdOk a b c d e v) = q ∧ ptDayRes (if rdOk (a, b, c, d, e, v) then some ((a, b, c, d, e, v), m) else none) = if q then .tuple #[vday (a, b, c, d, e, v), .int .i64 m, .bool true] else .tuple #[vday rd0, .int .i64 0, .bool false] := by
  intro v m
  by_cases h : RdOk a b c d e v
  ·exact ⟨true, by simpa using h, by rw [if_pos (show rdOk (a, b, c, d, e, v) from h)]; rfl⟩
  ·exact ⟨false, by simpa using h, by rw [if_neg (show ¬ rdOk (a, b, c, d, e, v) from h)]; rfl⟩
 rw [hR]
 rcases hd : (byt s).drop n with _ | ⟨x, t⟩
 ·left
  obtain ⟨q, h1, h2⟩ := fin 7200 n
  exact ⟨q, .inl (drop_nil hd), h1, h2⟩
 ·obtain ⟨hn, h1, h2⟩ := drop_cons hd
  by_cases h47 : (x.toNat : Int) = 47
  ·right
   refine ⟨hn, by rw [h1]; exact h47, ?_⟩
   rw [byt_rest, h2]
   simp only [h47, if_true]
   rcases hp : hmsParse t with _ | ⟨v, k⟩
   ·exact .inl ⟨rfl, rfl⟩
   ·right
    obtain ⟨q, h3, h4⟩ := fin v (n + 1 + k)
    have hk := (parse_prefix hp).2.1
    have hl := congrArg List.length h2
    rw [List.length_drop, len_byt] at hl
    have hl2 : t.length ≤ s.size := by omega
    exact ⟨v, k, q, by omega, rfl, h3, h4⟩
  ·left
   obtain ⟨q, h3, h4⟩ := fin 7200 n
   simp only [h47, if_false]
   exact ⟨q, .inr ⟨hn, (x.toNat : Int), by rw [h1], (byte_bd x).1, (byte_bd x).2, by simpa using h47⟩, h3, h4⟩
namespace r9_
theorem num_no {s : ByteArray} {i : Nat} (hs : s.size ≤ 1000000) (hi : i ≤ s.size) (h : ptNum ((byt s).drop i) = none) : ∀ w, Calls Tryz.prog 113 #[.string s, .int .i64 i] w fun e w' => e = .returned (.tuple #[.int .i64 (-1), .int .i64 (i : Nat)]) ∧ w = w' := by
 intro w
 have := num s i w hs hi
 rw [h] at this
 exact this
theorem num_yes {s : ByteArray} {i k : Nat} {v : Int} (hs : s.size ≤ 1000000) (hi : i ≤ s.size) (h : ptNum ((byt s).drop i) = some (v, k)) :
 (∀ w, Calls Tryz.prog 113 #[.string s, .int .i64 i] w fun e w' => e = .returned (.tuple #[.int .i64 v, .int .i64 ((i + k : Nat) : Int)]) ∧ w = w') ∧ 1 ≤ k ∧ i + k ≤ s.size ∧ 0 ≤ v ∧ v ≤ 999 := by
 have hb := ptNum_some h
 rw [List.length_drop, len_byt] at hb
 refine ⟨fun w => ?_, hb.1, by omega, hb.2.2.2.1, hb.2.2.2.2⟩
 have := num s i w hs hi
 rw [h] at this
 exact this
theorem bad_or {s : ByteArray} (i : Nat) : (s.size ≤ i ∨ ∃ (h : i < s.size) (x : Int), (s[i].toNat : Int) = x ∧ 0 ≤ x ∧ x ≤ 255 ∧ (x != 46) = true) ∨ ∃ h : i < s.size, (s[i].toNat : Int) = 46 := by
 by_cases h : i < s.size
 ·by_cases h2 : (s[i].toNat : Int) = 46
  ·exact .inr ⟨h, h2⟩
  ·exact .inl (.inr ⟨h, _, rfl, (byte_bd _).1, (byte_bd _).2, by simpa using h2⟩)
 ·exact .inl (.inl (by omega))
theorem numP_no {s : ByteArray} {i : Nat} {v : Int} {k : Nat} (h : ptNum ((byt s).drop i) = some (v, k)) (hb : s.size ≤ i + k ∨ ∃ (h : i + k < s.size) (x : Int), (s[i + k].toNat : Int) = x ∧ 0 ≤ x ∧ x ≤ 255 ∧ (x != 46) = true) : ptNumP ((byt s).drop i) = none := by
 unfold ptNumP
 rw [h]
 simp only [List.drop_drop]
 rcases hd : (byt s).drop (i + k) with _ | ⟨c, t⟩
 ·rfl
 ·obtain ⟨hn, h1, h2⟩ := drop_cons hd
  rcases hb with hb | ⟨h3, x, h4, _, _, h5⟩
  ·omega
  ·have : ¬ (c.toNat : Int) = 46 := by rw [← h1, h4]; simpa using h5
   simp only [this, if_false]
theorem numP_yes {s : ByteArray} {i : Nat} {v : Int} {k : Nat} (h : ptNum ((byt s).drop i) = some (v, k)) (hb : ∃ h : i + k < s.size, (s[i + k].toNat : Int) = 46) : ptNumP ((byt s).drop i) = some (v, k + 1) := by
 unfold ptNumP
 rw [h]
 simp only [List.drop_drop]
 rcases hd : (byt s).drop (i + k) with _ | ⟨c, t⟩
 ·have := drop_nil hd
  obtain ⟨hb, _⟩ := hb
  omega
 ·obtain ⟨hn, h1, h2⟩ := drop_cons hd
  obtain ⟨h3, h4⟩ := hb
  rw [h1] at h4
  simp only [h4, if_true]
theorem numP_none {l : List UInt8} (h : ptNum l = none) : ptNumP l = none := by unfold ptNumP; rw [h]
theorem day_none {s : ByteArray} (h : ptHead (byt s) = none) : ptDayRes (ptDay (byt s)) = .tuple #[vday rd0, .int .i64 0, .bool false] := by unfold ptDay; rw [h]; rfl
theorem Day (s : ByteArray) (w : World) (hs : s.size ≤ 1000000) : Calls Tryz.prog 82 #[.string s] w fun e w' => e = .returned (ptDayRes (ptDay (byt s))) ∧ Below w.heap.size w w' := by
 rcases hb : byt s with _ | ⟨c, t⟩
 ·have h0 : s.size = 0 := by rw [← len_byt, hb]; rfl
  have hh : ptHead (byt s) = none := by rw [hb]; rfl
  rw [← hb, day_none hh]
  exact Day_Z0_no s w hs h0 0 (-1) (num_no (i := 0) hs (by omega) (by rw [hb]; rfl)) rfl
 ·obtain ⟨h0, hc, ht⟩ := drop_cons (i := 0) (by simpa using hb)
  have hd1 : (byt s).drop 1 = t := ht
  by_cases h74 : (c.toNat : Int) = 74
  ·have hh : ptHead (byt s) = match ptNum t with | none => none | some (v, n) => some ((1, v, 0, 0, 0), 1 + n) := by rw [hb]; simp only [ptHead, h74, if_true]; rfl
   rcases hp : ptNum t with _ | ⟨v, k⟩
   ·rw [hp] at hh
    rw [← hb, day_none hh]
    exact Day_J_no s w hs h0 (by rw [hc]; exact h74) 1 (-1) (num_no (i := 1) hs (by omega) (by rw [hd1]; exact hp)) rfl
   ·rw [hp] at hh
    obtain ⟨N, _, hle, v0, v1⟩ := num_yes (i := 1) hs (by omega) (by rw [hd1]; exact hp)
    rw [← hb]
    exact Day_J s w hs _ v (1 + k) hle h0 (by rw [hc]; exact h74) N v0 v1 (tl_of hh)
  by_cases h77 : (c.toNat : Int) = 77
  ·have hh : ptHead (byt s) = match ptNumP t with
    | none => none
    | some (m, i) => match ptNumP (t.drop i) with
      | none => none
      | some (w, j) => match ptNum (t.drop (i + j)) with
        | none => none
        | some (x, k) => some ((3, 0, m, w, x), 1 + (i + j) + k) := by rw [hb]; simp only [ptHead, h77, if_true, if_false, show ¬ (77 : Int) = 74 by decide]; rfl
   have hs77 : (s[0].toNat : Int) = 77 := by rw [hc]; exact h77
   rw [← hd1] at hh
   rcases hp : ptNum ((byt s).drop 1) with _ | ⟨m, k⟩
   ·rw [numP_none hp] at hh
    rw [← hb, day_none hh]
    exact Day_M1 s w hs h0 hs77 (-1) 1 (by omega) (num_no (i := 1) hs (by omega) hp) (.inl rfl)
   obtain ⟨N1, _, hi1, m0, m1⟩ := num_yes (i := 1) hs (by omega) hp
   rcases bad_or (s := s) (1 + k) with hbad | hgood
   ·rw [numP_no hp hbad] at hh
    rw [← hb, day_none hh]
    exact Day_M1 s w hs h0 hs77 m (1 + k) hi1 N1 (.inr ⟨m0, m1, hbad⟩)
   simp only [numP_yes hp hgood, List.drop_drop] at hh
   obtain ⟨hi, hi46⟩ := hgood
   rw [show 1 + (k + 1) = 1 + k + 1 by omega] at hh
   rcases hq : ptNum ((byt s).drop (1 + k + 1)) with _ | ⟨u, k2⟩
   ·simp only [numP_none hq] at hh
    rw [← hb, day_none hh]
    exact Day_M2 s w hs h0 hs77 m (1 + k) hi1 N1 m0 m1 hi hi46 (-1) (1 + k + 1) (by omega) (num_no (i := 1 + k + 1) hs (by omega) hq) (.inl rfl)
   obtain ⟨N2, _, hj1, u0, u1⟩ := num_yes (i := 1 + k + 1) hs (by omega) hq
   rcases bad_or (s := s) (1 + k + 1 + k2) with hbad | hgood
   ·simp only [numP_no hq hbad] at hh
    rw [← hb, day_none hh]
    exact Day_M2 s w hs h0 hs77 m (1 + k) hi1 N1 m0 m1 hi hi46 u (1 + k + 1 + k2) hj1 N2 (.inr ⟨u0, u1, hbad⟩)
   simp only [numP_yes hq hgood] at hh
   obtain ⟨hj, hj46⟩ := hgood
   rw [show 1 + (k + 1 + (k2 + 1)) = 1 + k + 1 + k2 + 1 by omega] at hh
   rcases hr : ptNum ((byt s).drop (1 + k + 1 + k2 + 1)) with _ | ⟨v, k3⟩
   ·simp only [hr] at hh
    rw [← hb, day_none hh]
    exact Day_M3 s w hs h0 hs77 m (1 + k) hi1 N1 m0 m1 hi hi46 u (1 + k + 1 + k2) hj1 N2 u0 u1 hj hj46 (-1) (1 + k + 1 + k2 + 1) (num_no (i := 1 + k + 1 + k2 + 1) hs (by omega) hr) rfl
   simp only [hr] at hh
   obtain ⟨N3, _, hn1, v0, v1⟩ := num_yes (i := 1 + k + 1 + k2 + 1) hs (by omega) hr
   rw [← hb]
   exact Day_M s w hs _ h0 hs77 m (1 + k) hi1 N1 m0 m1 hi hi46 u (1 + k + 1 + k2) hj1 N2 u0 u1 hj hj46 v (1 + k + 1 + k2 + 1 + k3) N3 hn1 v0 v1 (tl_of hh)
  ·have hh : ptHead (byt s) = match ptNum (byt s) with | none => none | some (v, n) => some ((2, v, 0, 0, 0), n) := by rw [hb]; simp only [ptHead, h74, h77, if_false]; rfl
   have e74 : ((c.toNat : Int) == 74) = false := by simpa using h74
   have e77 : ((c.toNat : Int) == 77) = false := by simpa using h77
   have hd0 : (byt s).drop 0 = byt s := rfl
   rcases hp : ptNum (byt s) with _ | ⟨v, k⟩
   ·rw [hp] at hh
    rw [← hb, day_none hh]
    exact Day_Z_no s w hs h0 _ (by rw [hc]) (byte_bd c).1 (byte_bd c).2 e74 e77 0 (-1) (num_no (i := 0) hs (by omega) (by rw [hd0]; exact hp)) rfl
   ·rw [hp] at hh
    obtain ⟨N, _, hle, v0, v1⟩ := num_yes (i := 0) hs (by omega) (by rw [hd0]; exact hp)
    rw [← hb]
    rw [Nat.zero_add] at N hle
    exact Day_Z s w hs _ v k hle h0 _ (by rw [hc]) (byte_bd c).1 (byte_bd c).2 e74 e77 N v0 v1 (tl_of hh)
end r9_
end Go.Proofs.YtbehflfpdkedgaaGreatDoor
