/-
  Texts of mine in one file: Hm. Their conditions stand in the theorems.
-/
import Derived.Test.YtbehflfpdkedgaaGreatDoorRows
import Derived.Test.YtbehflfpdkedgaaGreatDoorQ05
namespace Go.Proofs.YtbehflfpdkedgaaGreatDoor
set_option linter.unusedVariables false
set_option linter.unusedSimpArgs false
set_option maxRecDepth 100000
set_option maxHeartbeats 16000000
open Go.ChangeShapes Go.WideShapes Go.ChangeAt Go.RowKit
def dig (c : UInt8) : Bool := decide (48 ≤ (c.toNat : Int)) && decide ((c.toNat : Int) ≤ 57)
def hdig (l : List UInt8) : Bool := match l with | [] => false | c :: _ => dig c
def dval (l : List UInt8) : Int := l.foldl (fun h c => 10 * h + c.toNat - 48) 0
def hmsField (l : List UInt8) : Int :=
 match l with
 | c :: a :: b :: _ => if (c.toNat : Int) = 58 ∧ dig a ∧ dig b ∧ 10 * ((a.toNat : Int) - 48) + b.toNat - 48 ≤ 59 then 10 * ((a.toNat : Int) - 48) + b.toNat - 48 else -1
 | _ => -1
def hmsTail (l : List UInt8) : Int × Nat :=
 if 0 ≤ hmsField l then (if 0 ≤ hmsField (l.drop 3) then (60 * hmsField l + hmsField (l.drop 3), 6) else (60 * hmsField l, 3)) else (0, 0)
def hmsBody (l : List UInt8) : Option (Int × Nat) :=
 let d := l.takeWhile dig
 if 1 ≤ d.length ∧ d.length ≤ 3 ∧ dval d ≤ 167 then some (3600 * dval d + (hmsTail (l.drop d.length)).1, d.length + (hmsTail (l.drop d.length)).2) else none
def hmsParse (l : List UInt8) : Option (Int × Nat) :=
 match l with
 | [] => none
 | c :: t => if (c.toNat : Int) = 43 then (hmsBody t).map fun p => (p.1, p.2 + 1) else if (c.toNat : Int) = 45 then (hmsBody t).map fun p => (- p.1, p.2 + 1) else hmsBody (c :: t)
def hmsRes (r : Option (Int × Nat)) : Value :=
 match r with
 | none => .tuple #[.int .i64 0, .int .i64 0, .bool false]
 | some (v, n) => .tuple #[.int .i64 v, .int .i64 n, .bool true]
theorem retS2 {a b : ByteArray} (h : a = b) : Ending.returned (.string a) = .returned (.string b) := by rw [h]
theorem retV' {a b : Value} (h : a = b) : Ending.returned a = .returned b := by rw [h]
theorem drop_cons {s : ByteArray} {i : Nat} {c : UInt8} {t : List UInt8} (h : (byt s).drop i = c :: t) : ∃ hi : i < s.size, s[i] = c ∧ (byt s).drop (i + 1) = t := by
 have hl : i < (byt s).length := by
  rcases Nat.lt_or_ge i (byt s).length with h' | h'
  ·exact h'
  ·rw [List.drop_of_length_le h'] at h; cases h
 rw [List.drop_eq_getElem_cons hl] at h
 injection h with h1 h2
 exact ⟨by rw [← len_byt]; exact hl, by rw [← get_byt]; exact h1, h2⟩
theorem drop_nil {s : ByteArray} {i : Nat} (h : (byt s).drop i = []) : s.size ≤ i := by rw [List.drop_eq_nil_iff, len_byt] at h; exact h
theorem dval_snoc (l : List UInt8) (c : UInt8) : dval (l ++ [c]) = 10 * dval l + c.toNat - 48 := by simp [dval]
theorem dval_bd : ∀ (k : Nat) (l : List UInt8), l.length ≤ k → (∀ c ∈ l, dig c = true) → k ≤ 3 → 0 ≤ dval l ∧ dval l ≤ 999 ∧ (l.length ≤ 2 → dval l ≤ 99) ∧ (l.length ≤ 1 → dval l ≤ 9) := by
 intro k l hl hd hk
 have hb : ∀ c ∈ l, 48 ≤ (c.toNat : Int) ∧ (c.toNat : Int) ≤ 57 := fun c hc => by have := hd c hc; unfold dig at this; simpa using this
 match l, hl, hb with
 | [], _, _ => simp [dval]
 | [a], _, hb => have := hb a (by simp); simp [dval]; omega
 | [a, b], _, hb => have := hb a (by simp); have := hb b (by simp); simp [dval]; omega
 | [a, b, c], _, hb => have := hb a (by simp); have := hb b (by simp); have := hb c (by simp); simp [dval]; omega
 | a :: b :: c :: d :: t, hl, _ => simp at hl; omega
theorem hmsField_bd (l : List UInt8) : -1 ≤ hmsField l ∧ hmsField l ≤ 59 := by
 unfold hmsField
 split
 ·rename_i c a b t
  split
  ·rename_i h
   obtain ⟨_, ha, hb, h3⟩ := h
   unfold dig at ha hb
   simp at ha hb
   omega
  ·omega
 ·omega
namespace r8_
theorem dig_bd {c : UInt8} (h : dig c = true) : 48 ≤ (c.toNat : Int) ∧ (c.toNat : Int) ≤ 57 := by unfold dig at h; simpa using h
theorem hres {r : Value} {v n v' : Int} {n' : Nat} (hr : r = hmsRes (some (v', n'))) (hv : v = v') (hn : n = n') : Ending.returned (.tuple #[.int .i64 v, .int .i64 n, .bool true]) = .returned r := by rw [hr, hv, hn]; rfl
theorem tw_all' {p : UInt8 → Bool} {l : List UInt8} {c : UInt8} (h : c ∈ l.takeWhile p) : p c = true := by
 induction l with
 | nil => simp at h
 | cons a l ih =>
   by_cases ha : p a = true
   ·rw [List.takeWhile_cons_of_pos ha] at h
    rcases List.mem_cons.1 h with rfl | h
    ·exact ha
    ·exact ih h
   ·rw [List.takeWhile_cons_of_neg ha] at h; simp at h
theorem hdig_tw {B : List UInt8} {k : Nat} (h : k < (B.takeWhile dig).length) : ∃ c t, B.drop k = c :: t ∧ dig c = true := by
 have hl := tw_le dig B
 have hk : k < B.length := by omega
 refine ⟨B[k], B.drop (k + 1), List.drop_eq_getElem_cons hk, tw_lt h hk⟩
theorem hdig_end (B : List UInt8) : hdig (B.drop (B.takeWhile dig).length) = false := by
 rcases Nat.lt_or_ge (B.takeWhile dig).length B.length with h | h
 ·rw [List.drop_eq_getElem_cons h]
  exact tw_at h
 ·rw [List.drop_of_length_le h]
  rfl
theorem take_drop {B : List UInt8} {k : Nat} {c : UInt8} {t : List UInt8} (h : B.drop k = c :: t) : B.take (k + 1) = B.take k ++ [c] := by
 have hl : k < B.length := by
  rcases Nat.lt_or_ge k B.length with h' | h'
  ·exact h'
  ·rw [List.drop_of_length_le h'] at h; cases h
 rw [List.drop_eq_getElem_cons hl] at h
 injection h with h1 h2
 rw [List.take_succ_eq_append_getElem hl, h1]
theorem isDigit (s : ByteArray) (i : Nat) (x : Int) (w : World) (hs : s.size ≤ 1000000) (hx : x = i) :
 Calls Tryz.prog 111 #[.string s, .int .i64 x] w fun e w' => e = .returned (.bool (hdig ((byt s).drop i))) ∧ w = w' := by
 subst hx
 cases h : (byt s).drop i with
 | nil =>
   have hi := drop_nil h
   clear h
   go_enter Tryz.func111, Tryz.ntmps111
   go_wp2
   go_ret
   exact ⟨rfl, rfl⟩
 | cons c t =>
   obtain ⟨hi, hc, _⟩ := drop_cons h
   have hb := c.toNat_lt
   obtain ⟨x, hx⟩ : ∃ x : Int, (c.toNat : Int) = x := ⟨_, rfl⟩
   rw [← hc] at hx
   have hf := hide (show hdig (c :: t) = (decide (48 ≤ x) && decide (x ≤ 57)) by unfold hdig dig; rw [← hx, hc])
   rw [hf.out]
   clear h hc hf
   rcases (show x < 48 ∨ 57 < x ∨ (48 ≤ x ∧ x ≤ 57) by omega) with h1 | h1 | ⟨h1, h2⟩
   all_goals
    go_enter Tryz.func111, Tryz.ntmps111
    go_wp2
    go_ret
    exact ⟨retb (by rw [Bool.eq_iff_iff]; simp; try omega), rfl⟩
theorem field (s : ByteArray) (i : Nat) (x : Int) (w : World) (hs : s.size ≤ 1000000) (hx : x = i) (hi : i ≤ 2000000) :
 Calls Tryz.prog 112 #[.string s, .int .i64 x] w fun e w' => e = .returned (.int .i64 (hmsField ((byt s).drop i))) ∧ Below w.heap.size w w' := by
 subst hx
 have D1 := hide (fun w => isDigit s (i + 1) ((i : Int) + 1) w hs (by omega))
 have D2 := hide (fun w => isDigit s (i + 2) ((i : Int) + 2) w hs (by omega))
 cases h : (byt s).drop i with
 | nil =>
   have hi := drop_nil h
   clear h D1 D2
   go_enter Tryz.func112, Tryz.ntmps112
   go_wp2
   go_ret
   exact ⟨rfl, bl_refl _⟩
 | cons c t =>
   obtain ⟨hi, hc, ht⟩ := drop_cons h
   obtain ⟨v, hv⟩ : ∃ v, v = hmsField (c :: t) := ⟨_, rfl⟩
   rw [← hv]
   replace hv := hide hv
   rw [ht] at D1
   rw [show i + 2 = i + 1 + 1 from rfl, ← List.drop_drop, ht] at D2
   have hcb := c.toNat_lt
   by_cases h58 : (c.toNat : Int) = 58
   case neg =>
    have hvv : v = -1 := by
     rw [hv.out]
     unfold hmsField
     split
     ·rename_i e; cases e; rw [if_neg (fun h => h58 h.1)]
     ·rfl
    subst hvv
    obtain ⟨y, hy⟩ : ∃ y : Int, (c.toNat : Int) = y := ⟨_, rfl⟩
    rw [hy] at h58
    rw [← hc] at hy
    have f1 : (y != 58) = true := by simpa using h58
    clear h D1 D2 hv h58 hc
    go_enter Tryz.func112, Tryz.ntmps112
    go_wp2
    go_ret
    exact ⟨rfl, bl_refl _⟩
   have hy : ((s[i]'hi).toNat : Int) = 58 := by rw [hc]; exact h58
   clear h
   cases t with
   | nil =>
     have hvv : v = -1 := by rw [hv.out]; rfl
     subst hvv
     clear hv h58 hc D2
     go_enter Tryz.func112, Tryz.ntmps112
     go_wp2_with fail
     refine (D1.out _).mono ?_
     rintro e w2 ⟨rfl, rfl⟩
     simp only [hdig]
     go_wp2
     go_ret
     exact ⟨rfl, bl_refl _⟩
   | cons a t =>
     obtain ⟨hi1, ha, ht1⟩ := drop_cons ht
     simp only [hdig] at D1
     have hab := a.toNat_lt
     rcases hda : dig a
     ·have hvv : v = -1 := by
       rw [hv.out]
       unfold hmsField
       split
       ·rename_i e; cases e; rw [if_neg (by simp [hda])]
       ·rfl
      subst hvv
      rw [hda] at D1
      clear hv h58 hc D2
      go_enter Tryz.func112, Tryz.ntmps112
      go_wp2_with fail
      refine (D1.out _).mono ?_
      rintro e w2 ⟨rfl, rfl⟩
      go_wp2
      go_ret
      exact ⟨rfl, bl_refl _⟩
     rw [hda] at D1
     cases t with
     | nil =>
       have hvv : v = -1 := by rw [hv.out]; rfl
       subst hvv
       clear hv h58 hc
       simp only [List.drop_succ_cons, List.drop_zero, hdig] at D2
       go_enter Tryz.func112, Tryz.ntmps112
       go_wp2_with fail
       refine (D1.out _).mono ?_
       rintro e w2 ⟨rfl, rfl⟩
       go_wp2_with fail
       refine (D2.out _).mono ?_
       rintro e w2 ⟨rfl, rfl⟩
       go_wp2
       go_ret
       exact ⟨rfl, bl_refl _⟩
     | cons b t =>
       obtain ⟨hi2, hb, _⟩ := drop_cons ht1
       simp only [List.drop_succ_cons, List.drop_zero, hdig] at D2
       have hbb := b.toNat_lt
       rcases hdb : dig b
       ·have hvv : v = -1 := by
         rw [hv.out]
         unfold hmsField
         simp only
         rw [if_neg (by simp [hdb])]
        subst hvv
        rw [hdb] at D2
        clear hv h58 hc
        go_enter Tryz.func112, Tryz.ntmps112
        go_wp2_with fail
        refine (D1.out _).mono ?_
        rintro e w2 ⟨rfl, rfl⟩
        go_wp2_with fail
        refine (D2.out _).mono ?_
        rintro e w2 ⟨rfl, rfl⟩
        go_wp2
        go_ret
        exact ⟨rfl, bl_refl _⟩
       rw [hdb] at D2
       obtain ⟨A, hA⟩ : ∃ A : Int, (a.toNat : Int) = A := ⟨_, rfl⟩
       obtain ⟨B, hB⟩ : ∃ B : Int, (b.toNat : Int) = B := ⟨_, rfl⟩
       have hA1 := dig_bd hda
       have hB1 := dig_bd hdb
       have hvv := hv.out
       unfold hmsField at hvv
       simp only at hvv
       rw [hda, hdb, hA, hB, h58] at hvv
       rw [hA] at hA1
       rw [hB] at hB1
       rw [← ha] at hA
       rw [← hb] at hB
       have hA2 : ((s[i + 1]'hi1).toNat : Int) = A := hA
       have hB2 : ((s[i + 2]'(by omega)).toNat : Int) = B := hB
       have j1 : (i : Int) + 1 < (s.size : Int) := by omega
       have j2 : (i : Int) + 2 < (s.size : Int) := by omega
       have j3 : (0 : Int) ≤ (i : Int) + 1 := by omega
       have j4 : (0 : Int) ≤ (i : Int) + 2 := by omega
       obtain ⟨A0, A1⟩ := hA1
       obtain ⟨B0, B1⟩ := hB1
       clear hv h58 hc hda hdb ht ht1 hA hB hab hbb hcb ha hb
       by_cases hle : 10 * (A - 48) + B - 48 ≤ 59
       ·rw [if_pos ⟨rfl, rfl, rfl, hle⟩] at hvv
        replace hvv := hide hvv
        go_enter Tryz.func112, Tryz.ntmps112
        go_wp2_with fail
        refine (D1.out _).mono ?_
        rintro e w2 ⟨rfl, rfl⟩
        go_wp2_with fail
        refine (D2.out _).mono ?_
        rintro e w2 ⟨rfl, rfl⟩
        go_wp2
        go_region
        go_wp2
        go_ret
        exact ⟨reti hvv.out.symm, bl_drew (bl_refl _)⟩
       ·rw [if_neg (fun h => hle h.2.2.2)] at hvv
        subst hvv
        go_enter Tryz.func112, Tryz.ntmps112
        go_wp2_with fail
        refine (D1.out _).mono ?_
        rintro e w2 ⟨rfl, rfl⟩
        go_wp2_with fail
        refine (D2.out _).mono ?_
        rintro e w2 ⟨rfl, rfl⟩
        go_wp2
        go_region
        go_wp2
        go_ret
        exact ⟨rfl, bl_drew (bl_refl _)⟩
--@PARSE
theorem Parse (s : ByteArray) (w : World) (hs : s.size ≤ 1000000) : Calls Tryz.prog 80 #[.string s] w fun e w' => e = .returned (hmsRes (hmsParse (byt s))) ∧ Below w.heap.size w w' := by
 obtain ⟨r, hr⟩ : ∃ r, r = hmsRes (hmsParse (byt s)) := ⟨_, rfl⟩
 rw [← hr]
 cases hbyt : byt s with
 | nil =>
   have hfin : hmsParse (byt s) = hmsBody (byt s) := by rw [hbyt]; rfl
   have h0 : s.size = 0 := by rw [← len_byt, hbyt]; rfl
   obtain ⟨B, hB⟩ : ∃ B, B = (byt s).drop 0 := ⟨_, rfl⟩
   rw [show byt s = B by rw [hB]; rfl] at hfin
   rw [show hmsParse (byt s) = hmsBody B by rw [hB]; rw [hbyt]; rfl] at hr
   have hF : r = hmsRes none := by rw [hr, hB, hbyt]; rfl
   have D := hide (fun x w hx => isDigit s 0 x w hs hx)
   rw [show hdig ((byt s).drop 0) = false by rw [hbyt]; rfl] at D
   replace hF := hide hF
   clear hr hfin hB hbyt
   go_enter Tryz.func80, Tryz.ntmps80
   go_wp2
   go_loop [6, 7] (fun a h => a = .int .i64 0 ∧ h = .int .i64 0) (fun a _ => 0)
   case atStart => exact ⟨rfl, rfl⟩
   case round =>
    obtain ⟨rfl, rfl⟩ := hrel
    go_wp2_with fail
    refine (D.out _ _ (by omega)).mono ?_
    rintro e w2 ⟨rfl, rfl⟩
    go_wp2
    go_ret3
    exact ⟨retV' (by rw [hF.out]; rfl), bl_refl _⟩
 | cons c t =>
   obtain ⟨h0, hc, ht⟩ := drop_cons (s := s) (i := 0) (c := c) (t := t) (by rw [hbyt]; rfl)
   have hcb := c.toNat_lt
   obtain ⟨z, hz⟩ : ∃ z : Int, (c.toNat : Int) = z := ⟨_, rfl⟩
   by_cases h43 : z = 43
   ·subst h43
    have hfin : hmsParse (byt s) = (hmsBody ((byt s).drop 1)).map fun p => (p.1, p.2 + 1) := by rw [hbyt]; unfold hmsParse; simp only; rw [if_pos hz]; rfl
    have hz0 : ((s[0]'h0).toNat : Int) = 43 := by rw [hc]; exact hz
    obtain ⟨B, hB⟩ : ∃ B, B = (byt s).drop 1 := ⟨_, rfl⟩
    rw [← hB] at hfin
    clear hc ht hcb hz
    have hF : r = hmsRes ((hmsBody B).map fun p => (p.1, p.2 + 1)) := by rw [hr, hfin]
    obtain ⟨d, hd⟩ : ∃ d, d = B.takeWhile dig := ⟨_, rfl⟩
    obtain ⟨n, hn⟩ : ∃ n, n = (B.takeWhile dig).length := ⟨_, rfl⟩
    have hnd : d.length = n := by rw [hd, hn]
    have hnl : n ≤ s.size := by have := tw_le dig B; have := congrArg List.length hB; rw [List.length_drop, len_byt] at this; omega
    have Hdig := hide (show ∀ k, k < n → ∃ (h : 1 + k < s.size) (y : Int), (s[1 + k].toNat : Int) = y ∧ 48 ≤ y ∧ y ≤ 57 ∧ hdig ((byt s).drop (1 + k)) = true ∧ dval (B.take (k + 1)) = 10 * dval (B.take k) + y - 48 by
     intro k hk
     obtain ⟨c, t, h1, h2⟩ := hdig_tw (B := B) (k := k) (by rw [← hn]; exact hk)
     have h3 : (byt s).drop (1 + k) = c :: t := by rw [← List.drop_drop, ← hB]; exact h1
     obtain ⟨h4, h5, _⟩ := drop_cons h3
     have h6 := dig_bd h2
     refine ⟨h4, _, rfl, by rw [h5]; exact h6.1, by rw [h5]; exact h6.2, by rw [h3]; exact h2, ?_⟩
     rw [take_drop h1, dval_snoc, h5])
    have Hend := hide (show hdig ((byt s).drop (1 + n)) = false by rw [← List.drop_drop, ← hB, hn]; exact hdig_end B)
    have Hbd := hide (show ∀ k, k ≤ n → k ≤ 3 → 0 ≤ dval (B.take k) ∧ dval (B.take k) ≤ 999 by
     intro k hk h3
     have e : B.take k = d.take k := by rw [hd]; rw [← take_tw, List.take_take, ← hn, Nat.min_eq_left hk]
     have := dval_bd k (B.take k) (by simp; omega) (fun c hc => by rw [e, hd] at hc; exact tw_all' (List.mem_of_mem_take hc)) h3
     exact ⟨this.1, this.2.1⟩)
    have Hdn := hide (show dval (B.take n) = dval d by rw [hn, take_tw, hd])
    have Hbody := hide (show hmsBody B = if 1 ≤ n ∧ n ≤ 3 ∧ dval d ≤ 167 then some (3600 * dval d + (hmsTail (B.drop n)).1, n + (hmsTail (B.drop n)).2) else none by simp only [hmsBody, ← hd, hnd])
    have F1 := hide (fun x w hx => field s (1 + n) x w hs hx (by omega))
    have F2 := hide (fun x w hx => field s (1 + n + 3) x w hs hx (by omega))
    rw [show (byt s).drop (1 + n) = B.drop n by rw [← List.drop_drop, ← hB]] at F1
    rw [show (byt s).drop (1 + n + 3) = (B.drop n).drop 3 by rw [List.drop_drop, hB, List.drop_drop, Nat.add_assoc]] at F2
    have hm1 := hmsField_bd (B.drop n)
    have hm2 := hmsField_bd ((B.drop n).drop 3)
    have Htail := hide (show hmsTail (B.drop n) = if 0 ≤ hmsField (B.drop n) then (if 0 ≤ hmsField ((B.drop n).drop 3) then (60 * hmsField (B.drop n) + hmsField ((B.drop n).drop 3), 6) else (60 * hmsField (B.drop n), 3)) else (0, 0) from rfl)
    replace hF := hide hF
    have HB := hide hB
    generalize hmsField (B.drop n) = m1 at *
    generalize hmsField ((B.drop n).drop 3) = m2 at *
    generalize hmsTail (B.drop n) = tl at *
    obtain ⟨m10, m11⟩ := hm1
    obtain ⟨m20, m21⟩ := hm2
    clear hr hfin hB HB hd hn hnd hbyt
    go_enter Tryz.func80, Tryz.ntmps80
    go_wp2
    go_loop [6, 7] (fun a h => ∃ (k : Nat) (v : Int), k ≤ n ∧ a = .int .i64 k ∧ h = .int .i64 v ∧ 0 ≤ v ∧ v ≤ 9999 ∧ Hid (k ≤ 3 → v = dval (B.take k))) (fun a _ => n + 1 - (intOf a).toNat)
    case atStart => exact ⟨0, 0, by omega, rfl, rfl, by omega, by omega, hide (fun _ => rfl)⟩
    case round =>
     obtain ⟨k, v, hk, rfl, rfl, hv0, hv1, hv⟩ := hrel
     by_cases hlt : k < n
     ·obtain ⟨hks, y, hy, y0, y1, hyd, hdv⟩ := Hdig.out k hlt
      have D := hide (fun x w hx => isDigit s (1 + k) x w hs hx)
      rw [hyd] at D
      have j1 : (1 : Int) + (k : Int) < (s.size : Int) := by omega
      have j2 : (0 : Int) ≤ (1 : Int) + (k : Int) := by omega
      clear hyd
      by_cases h4 : k < 4
      ·have hv2 : v ≤ 999 := by
        have := hv.out (by omega)
        have := Hbd.out k (by omega) (by omega)
        omega
       have hn := hide (show k + 1 ≤ 3 → 10 * v + y - 48 = dval (B.take (k + 1)) by intro h; rw [hdv, hv.out (by omega)])
       clear hdv
       go_wp2_with fail
       refine (D.out _ _ (by omega)).mono ?_
       rintro e w2 ⟨rfl, rfl⟩
       go_wp2
       go_round
       case rel => exact ⟨k + 1, _, by omega, by go_num, rfl, by omega, by omega, hn⟩
       case measure => simp [intOf]; omega
      ·have hn := hide (show k + 1 ≤ 3 → v = dval (B.take (k + 1)) by intro h; omega)
       clear hdv
       go_wp2_with fail
       refine (D.out _ _ (by omega)).mono ?_
       rintro e w2 ⟨rfl, rfl⟩
       go_wp2
       go_round
       case rel => exact ⟨k + 1, _, by omega, by go_num, rfl, by omega, by omega, hn⟩
       case measure => simp [intOf]; omega
     ·obtain rfl : k = n := by omega
      have D := hide (fun x w hx => isDigit s (1 + k) x w hs hx)
      rw [Hend.out] at D
      have hvd := hide (fun h : k ≤ 3 => (hv.out h).trans Hdn.out)
      by_cases hok : 1 ≤ k ∧ k ≤ 3 ∧ v ≤ 167
      case neg =>
       have hb := hide (show hmsBody B = none by rw [Hbody.out, if_neg (fun h => hok ⟨h.1, h.2.1, by rw [hvd.out h.2.1]; exact h.2.2⟩)])
       have hF' := hF.out
       rw [hb.out] at hF'
       replace hF' := hide hF'
       have hok' : k < 1 ∨ (1 ≤ k ∧ 3 < k) ∨ (1 ≤ k ∧ k ≤ 3 ∧ 167 < v) := by omega
       clear hok
       rcases hok' with h1 | ⟨h1, h2⟩ | ⟨h1, h2, h3⟩
       all_goals
        go_wp2_with fail
        refine (D.out _ _ (by omega)).mono ?_
        rintro e w2 ⟨rfl, rfl⟩
        go_wp2
        go_ret3
        exact ⟨retV' (by rw [hF'.out]; rfl), bl_refl _⟩
      obtain ⟨hok1, hok2, hok3⟩ := hok
      have hve := hvd.out hok2
      have hb := hide (show hmsBody B = some (3600 * v + tl.1, k + tl.2) by rw [Hbody.out, if_pos ⟨hok1, hok2, by rw [← hve]; exact hok3⟩, ← hve])
      have hF' := hF.out
      rw [hb.out] at hF'
      replace hF' := hide hF'
      clear hve hvd
      by_cases h1 : 0 ≤ m1
      ·by_cases h2 : 0 ≤ m2
       ·have ht := hide (show tl = (60 * m1 + m2, 6) by rw [Htail.out, if_pos h1, if_pos h2])
        go_wp2_with fail
        refine (D.out _ _ (by omega)).mono ?_
        rintro e w2 ⟨rfl, rfl⟩
        go_wp2_with fail
        refine (F1.out _ _ (by omega)).mono ?_
        rintro e w2 ⟨rfl, hb1⟩
        replace hb1 := hide hb1
        go_wp2_with fail
        refine (F2.out _ _ (by omega)).mono ?_
        rintro e w3 ⟨rfl, hb2⟩
        replace hb2 := hide (bel_next hb1.out hb2)
        go_wp2
        go_ret3
        have hG := hF'.out
        rw [ht.out] at hG
        try dsimp only [Option.map] at hG
        exact ⟨hres hG (by omega) (by omega), hb2.out⟩
       ·have ht := hide (show tl = (60 * m1, 3) by rw [Htail.out, if_pos h1, if_neg h2])
        go_wp2_with fail
        refine (D.out _ _ (by omega)).mono ?_
        rintro e w2 ⟨rfl, rfl⟩
        go_wp2_with fail
        refine (F1.out _ _ (by omega)).mono ?_
        rintro e w2 ⟨rfl, hb1⟩
        replace hb1 := hide hb1
        go_wp2_with fail
        refine (F2.out _ _ (by omega)).mono ?_
        rintro e w3 ⟨rfl, hb2⟩
        replace hb2 := hide (bel_next hb1.out hb2)
        go_wp2
        go_ret3
        have hG := hF'.out
        rw [ht.out] at hG
        try dsimp only [Option.map] at hG
        exact ⟨hres hG (by omega) (by omega), hb2.out⟩
      ·have ht := hide (show tl = (0, 0) by rw [Htail.out, if_neg h1])
       go_wp2_with fail
       refine (D.out _ _ (by omega)).mono ?_
       rintro e w2 ⟨rfl, rfl⟩
       go_wp2_with fail
       refine (F1.out _ _ (by omega)).mono ?_
       rintro e w2 ⟨rfl, hb1⟩
       replace hb1 := hide hb1
       go_wp2
       go_ret3
       have hG := hF'.out
       rw [ht.out] at hG
       try dsimp only [Option.map] at hG
       exact ⟨hres hG (by omega) (by omega), hb1.out⟩
   by_cases h45 : z = 45
   ·subst h45
    have hfin : hmsParse (byt s) = (hmsBody ((byt s).drop 1)).map fun p => (- p.1, p.2 + 1) := by rw [hbyt]; unfold hmsParse; simp only; rw [if_neg (by rw [hz]; omega), if_pos hz]; rfl
    have hz0 : ((s[0]'h0).toNat : Int) = 45 := by rw [hc]; exact hz
    obtain ⟨B, hB⟩ : ∃ B, B = (byt s).drop 1 := ⟨_, rfl⟩
    rw [← hB] at hfin
    clear hc ht hcb hz h43
    have hF : r = hmsRes ((hmsBody B).map fun p => (- p.1, p.2 + 1)) := by rw [hr, hfin]
    obtain ⟨d, hd⟩ : ∃ d, d = B.takeWhile dig := ⟨_, rfl⟩
    obtain ⟨n, hn⟩ : ∃ n, n = (B.takeWhile dig).length := ⟨_, rfl⟩
    have hnd : d.length = n := by rw [hd, hn]
    have hnl : n ≤ s.size := by have := tw_le dig B; have := congrArg List.length hB; rw [List.length_drop, len_byt] at this; omega
    have Hdig := hide (show ∀ k, k < n → ∃ (h : 1 + k < s.size) (y : Int), (s[1 + k].toNat : Int) = y ∧ 48 ≤ y ∧ y ≤ 57 ∧ hdig ((byt s).drop (1 + k)) = true ∧ dval (B.take (k + 1)) = 10 * dval (B.take k) + y - 48 by
     intro k hk
     obtain ⟨c, t, h1, h2⟩ := hdig_tw (B := B) (k := k) (by rw [← hn]; exact hk)
     have h3 : (byt s).drop (1 + k) = c :: t := by rw [← List.drop_drop, ← hB]; exact h1
     obtain ⟨h4, h5, _⟩ := drop_cons h3
     have h6 := dig_bd h2
     refine ⟨h4, _, rfl, by rw [h5]; exact h6.1, by rw [h5]; exact h6.2, by rw [h3]; exact h2, ?_⟩
     rw [take_drop h1, dval_snoc, h5])
    have Hend := hide (show hdig ((byt s).drop (1 + n)) = false by rw [← List.drop_drop, ← hB, hn]; exact hdig_end B)
    have Hbd := hide (show ∀ k, k ≤ n → k ≤ 3 → 0 ≤ dval (B.take k) ∧ dval (B.take k) ≤ 999 by
     intro k hk h3
     have e : B.take k = d.take k := by rw [hd]; rw [← take_tw, List.take_take, ← hn, Nat.min_eq_left hk]
     have := dval_bd k (B.take k) (by simp; omega) (fun c hc => by rw [e, hd] at hc; exact tw_all' (List.mem_of_mem_take hc)) h3
     exact ⟨this.1, this.2.1⟩)
    have Hdn := hide (show dval (B.take n) = dval d by rw [hn, take_tw, hd])
    have Hbody := hide (show hmsBody B = if 1 ≤ n ∧ n ≤ 3 ∧ dval d ≤ 167 then some (3600 * dval d + (hmsTail (B.drop n)).1, n + (hmsTail (B.drop n)).2) else none by simp only [hmsBody, ← hd, hnd])
    have F1 := hide (fun x w hx => field s (1 + n) x w hs hx (by omega))
    have F2 := hide (fun x w hx => field s (1 + n + 3) x w hs hx (by omega))
    rw [show (byt s).drop (1 + n) = B.drop n by rw [← List.drop_drop, ← hB]] at F1
    rw [show (byt s).drop (1 + n + 3) = (B.drop n).drop 3 by rw [List.drop_drop, hB, List.drop_drop, Nat.add_assoc]] at F2
    have hm1 := hmsField_bd (B.drop n)
    have hm2 := hmsField_bd ((B.drop n).drop 3)
    have Htail := hide (show hmsTail (B.drop n) = if 0 ≤ hmsField (B.drop n) then (if 0 ≤ hmsField ((B.drop n).drop 3) then (60 * hmsField (B.drop n) + hmsField ((B.drop n).drop 3), 6) else (60 * hmsField (B.drop n), 3)) else (0, 0) from rfl)
    replace hF := hide hF
    have HB := hide hB
    generalize hmsField (B.drop n) = m1 at *
    generalize hmsField ((B.drop n).drop 3) = m2 at *
    generalize hmsTail (B.drop n) = tl at *
    obtain ⟨m10, m11⟩ := hm1
    obtain ⟨m20, m21⟩ := hm2
    clear hr hfin hB HB hd hn hnd hbyt
    go_enter Tryz.func80, Tryz.ntmps80
    go_wp2
    go_loop [6, 7] (fun a h => ∃ (k : Nat) (v : Int), k ≤ n ∧ a = .int .i64 k ∧ h = .int .i64 v ∧ 0 ≤ v ∧ v ≤ 9999 ∧ Hid (k ≤ 3 → v = dval (B.take k))) (fun a _ => n + 1 - (intOf a).toNat)
    case atStart => exact ⟨0, 0, by omega, rfl, rfl, by omega, by omega, hide (fun _ => rfl)⟩
    case round =>
     obtain ⟨k, v, hk, rfl, rfl, hv0, hv1, hv⟩ := hrel
     by_cases hlt : k < n
     ·obtain ⟨hks, y, hy, y0, y1, hyd, hdv⟩ := Hdig.out k hlt
      have D := hide (fun x w hx => isDigit s (1 + k) x w hs hx)
      rw [hyd] at D
      have j1 : (1 : Int) + (k : Int) < (s.size : Int) := by omega
      have j2 : (0 : Int) ≤ (1 : Int) + (k : Int) := by omega
      clear hyd
      by_cases h4 : k < 4
      ·have hv2 : v ≤ 999 := by
        have := hv.out (by omega)
        have := Hbd.out k (by omega) (by omega)
        omega
       have hn := hide (show k + 1 ≤ 3 → 10 * v + y - 48 = dval (B.take (k + 1)) by intro h; rw [hdv, hv.out (by omega)])
       clear hdv
       go_wp2_with fail
       refine (D.out _ _ (by omega)).mono ?_
       rintro e w2 ⟨rfl, rfl⟩
       go_wp2
       go_round
       case rel => exact ⟨k + 1, _, by omega, by go_num, rfl, by omega, by omega, hn⟩
       case measure => simp [intOf]; omega
      ·have hn := hide (show k + 1 ≤ 3 → v = dval (B.take (k + 1)) by intro h; omega)
       clear hdv
       go_wp2_with fail
       refine (D.out _ _ (by omega)).mono ?_
       rintro e w2 ⟨rfl, rfl⟩
       go_wp2
       go_round
       case rel => exact ⟨k + 1, _, by omega, by go_num, rfl, by omega, by omega, hn⟩
       case measure => simp [intOf]; omega
     ·obtain rfl : k = n := by omega
      have D := hide (fun x w hx => isDigit s (1 + k) x w hs hx)
      rw [Hend.out] at D
      have hvd := hide (fun h : k ≤ 3 => (hv.out h).trans Hdn.out)
      by_cases hok : 1 ≤ k ∧ k ≤ 3 ∧ v ≤ 167
      case neg =>
       have hb := hide (show hmsBody B = none by rw [Hbody.out, if_neg (fun h => hok ⟨h.1, h.2.1, by rw [hvd.out h.2.1]; exact h.2.2⟩)])
       have hF' := hF.out
       rw [hb.out] at hF'
       replace hF' := hide hF'
       have hok' : k < 1 ∨ (1 ≤ k ∧ 3 < k) ∨ (1 ≤ k ∧ k ≤ 3 ∧ 167 < v) := by omega
       clear hok
       rcases hok' with h1 | ⟨h1, h2⟩ | ⟨h1, h2, h3⟩
       all_goals
        go_wp2_with fail
        refine (D.out _ _ (by omega)).mono ?_
        rintro e w2 ⟨rfl, rfl⟩
        go_wp2
        go_ret3
        exact ⟨retV' (by rw [hF'.out]; rfl), bl_refl _⟩
      obtain ⟨hok1, hok2, hok3⟩ := hok
      have hve := hvd.out hok2
      have hb := hide (show hmsBody B = some (3600 * v + tl.1, k + tl.2) by rw [Hbody.out, if_pos ⟨hok1, hok2, by rw [← hve]; exact hok3⟩, ← hve])
      have hF' := hF.out
      rw [hb.out] at hF'
      replace hF' := hide hF'
      clear hve hvd
      by_cases h1 : 0 ≤ m1
      ·by_cases h2 : 0 ≤ m2
       ·have ht := hide (show tl = (60 * m1 + m2, 6) by rw [Htail.out, if_pos h1, if_pos h2])
        go_wp2_with fail
        refine (D.out _ _ (by omega)).mono ?_
        rintro e w2 ⟨rfl, rfl⟩
        go_wp2_with fail
        refine (F1.out _ _ (by omega)).mono ?_
        rintro e w2 ⟨rfl, hb1⟩
        replace hb1 := hide hb1
        go_wp2_with fail
        refine (F2.out _ _ (by omega)).mono ?_
        rintro e w3 ⟨rfl, hb2⟩
        replace hb2 := hide (bel_next hb1.out hb2)
        go_wp2
        go_ret3
        have hG := hF'.out
        rw [ht.out] at hG
        try dsimp only [Option.map] at hG
        exact ⟨hres hG (by omega) (by omega), hb2.out⟩
       ·have ht := hide (show tl = (60 * m1, 3) by rw [Htail.out, if_pos h1, if_neg h2])
        go_wp2_with fail
        refine (D.out _ _ (by omega)).mono ?_
        rintro e w2 ⟨rfl, rfl⟩
        go_wp2_with fail
        refine (F1.out _ _ (by omega)).mono ?_
        rintro e w2 ⟨rfl, hb1⟩
        replace hb1 := hide hb1
        go_wp2_with fail
        refine (F2.out _ _ (by omega)).mono ?_
        rintro e w3 ⟨rfl, hb2⟩
        replace hb2 := hide (bel_next hb1.out hb2)
        go_wp2
        go_ret3
        have hG := hF'.out
        rw [ht.out] at hG
        try dsimp only [Option.map] at hG
        exact ⟨hres hG (by omega) (by omega), hb2.out⟩
      ·have ht := hide (show tl = (0, 0) by rw [Htail.out, if_neg h1])
       go_wp2_with fail
       refine (D.out _ _ (by omega)).mono ?_
       rintro e w2 ⟨rfl, rfl⟩
       go_wp2_with fail
       refine (F1.out _ _ (by omega)).mono ?_
       rintro e w2 ⟨rfl, hb1⟩
       replace hb1 := hide hb1
       go_wp2
       go_ret3
       have hG := hF'.out
       rw [ht.out] at hG
       try dsimp only [Option.map] at hG
       exact ⟨hres hG (by omega) (by omega), hb1.out⟩
   ·have hfin : hmsParse (byt s) = hmsBody ((byt s).drop 0) := by rw [hbyt]; unfold hmsParse; simp only; rw [if_neg (by rw [hz]; exact h43), if_neg (by rw [hz]; exact h45)]; rfl
    have hz0 : ((s[0]'h0).toNat : Int) = z := by rw [hc]; exact hz
    have z1 : (z == 43) = false := by simpa using h43
    have z2 : (z == 45) = false := by simpa using h45
    obtain ⟨B, hB⟩ : ∃ B, B = (byt s).drop 0 := ⟨_, rfl⟩
    rw [← hB] at hfin
    clear hc ht hcb hz h43 h45
    have hF : r = hmsRes (hmsBody B) := by rw [hr, hfin]
    obtain ⟨d, hd⟩ : ∃ d, d = B.takeWhile dig := ⟨_, rfl⟩
    obtain ⟨n, hn⟩ : ∃ n, n = (B.takeWhile dig).length := ⟨_, rfl⟩
    have hnd : d.length = n := by rw [hd, hn]
    have hnl : n ≤ s.size := by have := tw_le dig B; have := congrArg List.length hB; rw [List.length_drop, len_byt] at this; omega
    have Hdig := hide (show ∀ k, k < n → ∃ (h : 0 + k < s.size) (y : Int), (s[0 + k].toNat : Int) = y ∧ 48 ≤ y ∧ y ≤ 57 ∧ hdig ((byt s).drop (0 + k)) = true ∧ dval (B.take (k + 1)) = 10 * dval (B.take k) + y - 48 by
     intro k hk
     obtain ⟨c, t, h1, h2⟩ := hdig_tw (B := B) (k := k) (by rw [← hn]; exact hk)
     have h3 : (byt s).drop (0 + k) = c :: t := by rw [← List.drop_drop, ← hB]; exact h1
     obtain ⟨h4, h5, _⟩ := drop_cons h3
     have h6 := dig_bd h2
     refine ⟨h4, _, rfl, by rw [h5]; exact h6.1, by rw [h5]; exact h6.2, by rw [h3]; exact h2, ?_⟩
     rw [take_drop h1, dval_snoc, h5])
    have Hend := hide (show hdig ((byt s).drop (0 + n)) = false by rw [← List.drop_drop, ← hB, hn]; exact hdig_end B)
    have Hbd := hide (show ∀ k, k ≤ n → k ≤ 3 → 0 ≤ dval (B.take k) ∧ dval (B.take k) ≤ 999 by
     intro k hk h3
     have e : B.take k = d.take k := by rw [hd]; rw [← take_tw, List.take_take, ← hn, Nat.min_eq_left hk]
     have := dval_bd k (B.take k) (by simp; omega) (fun c hc => by rw [e, hd] at hc; exact tw_all' (List.mem_of_mem_take hc)) h3
     exact ⟨this.1, this.2.1⟩)
    have Hdn := hide (show dval (B.take n) = dval d by rw [hn, take_tw, hd])
    have Hbody := hide (show hmsBody B = if 1 ≤ n ∧ n ≤ 3 ∧ dval d ≤ 167 then some (3600 * dval d + (hmsTail (B.drop n)).1, n + (hmsTail (B.drop n)).2) else none by simp only [hmsBody, ← hd, hnd])
    have F1 := hide (fun x w hx => field s (0 + n) x w hs hx (by omega))
    have F2 := hide (fun x w hx => field s (0 + n + 3) x w hs hx (by omega))
    rw [show (byt s).drop (0 + n) = B.drop n by rw [← List.drop_drop, ← hB]] at F1
    rw [show (byt s).drop (0 + n + 3) = (B.drop n).drop 3 by rw [List.drop_drop, hB, List.drop_drop, Nat.add_assoc]] at F2
    have hm1 := hmsField_bd (B.drop n)
    have hm2 := hmsField_bd ((B.drop n).drop 3)
    have Htail := hide (show hmsTail (B.drop n) = if 0 ≤ hmsField (B.drop n) then (if 0 ≤ hmsField ((B.drop n).drop 3) then (60 * hmsField (B.drop n) + hmsField ((B.drop n).drop 3), 6) else (60 * hmsField (B.drop n), 3)) else (0, 0) from rfl)
    replace hF := hide hF
    have HB := hide hB
    generalize hmsField (B.drop n) = m1 at *
    generalize hmsField ((B.drop n).drop 3) = m2 at *
    generalize hmsTail (B.drop n) = tl at *
    obtain ⟨m10, m11⟩ := hm1
    obtain ⟨m20, m21⟩ := hm2
    clear hr hfin hB HB hd hn hnd hbyt
    go_enter Tryz.func80, Tryz.ntmps80
    go_wp2
    go_loop [6, 7] (fun a h => ∃ (k : Nat) (v : Int), k ≤ n ∧ a = .int .i64 k ∧ h = .int .i64 v ∧ 0 ≤ v ∧ v ≤ 9999 ∧ Hid (k ≤ 3 → v = dval (B.take k))) (fun a _ => n + 1 - (intOf a).toNat)
    case atStart => exact ⟨0, 0, by omega, rfl, rfl, by omega, by omega, hide (fun _ => rfl)⟩
    case round =>
     obtain ⟨k, v, hk, rfl, rfl, hv0, hv1, hv⟩ := hrel
     by_cases hlt : k < n
     ·obtain ⟨hks, y, hy, y0, y1, hyd, hdv⟩ := Hdig.out k hlt
      have D := hide (fun x w hx => isDigit s (0 + k) x w hs hx)
      rw [hyd] at D
      have j1 : (0 : Int) + (k : Int) < (s.size : Int) := by omega
      have j2 : (0 : Int) ≤ (0 : Int) + (k : Int) := by omega
      have hks' : k < s.size := by omega
      have hy' : (s[k].toNat : Int) = y := by rw [← hy]; simp
      clear hyd
      by_cases h4 : k < 4
      ·have hv2 : v ≤ 999 := by
        have := hv.out (by omega)
        have := Hbd.out k (by omega) (by omega)
        omega
       have hn := hide (show k + 1 ≤ 3 → 10 * v + y - 48 = dval (B.take (k + 1)) by intro h; rw [hdv, hv.out (by omega)])
       clear hdv
       go_wp2_with fail
       refine (D.out _ _ (by omega)).mono ?_
       rintro e w2 ⟨rfl, rfl⟩
       go_wp2
       go_round
       case rel => exact ⟨k + 1, _, by omega, by go_num, rfl, by omega, by omega, hn⟩
       case measure => simp [intOf]; omega
      ·have hn := hide (show k + 1 ≤ 3 → v = dval (B.take (k + 1)) by intro h; omega)
       clear hdv
       go_wp2_with fail
       refine (D.out _ _ (by omega)).mono ?_
       rintro e w2 ⟨rfl, rfl⟩
       go_wp2
       go_round
       case rel => exact ⟨k + 1, _, by omega, by go_num, rfl, by omega, by omega, hn⟩
       case measure => simp [intOf]; omega
     ·obtain rfl : k = n := by omega
      have D := hide (fun x w hx => isDigit s (0 + k) x w hs hx)
      rw [Hend.out] at D
      have hvd := hide (fun h : k ≤ 3 => (hv.out h).trans Hdn.out)
      by_cases hok : 1 ≤ k ∧ k ≤ 3 ∧ v ≤ 167
      case neg =>
       have hb := hide (show hmsBody B = none by rw [Hbody.out, if_neg (fun h => hok ⟨h.1, h.2.1, by rw [hvd.out h.2.1]; exact h.2.2⟩)])
       have hF' := hF.out
       rw [hb.out] at hF'
       replace hF' := hide hF'
       have hok' : k < 1 ∨ (1 ≤ k ∧ 3 < k) ∨ (1 ≤ k ∧ k ≤ 3 ∧ 167 < v) := by omega
       clear hok
       rcases hok' with h1 | ⟨h1, h2⟩ | ⟨h1, h2, h3⟩
       all_goals
        go_wp2_with fail
        refine (D.out _ _ (by omega)).mono ?_
        rintro e w2 ⟨rfl, rfl⟩
        go_wp2
        go_ret3
        exact ⟨retV' (by rw [hF'.out]; rfl), bl_refl _⟩
      obtain ⟨hok1, hok2, hok3⟩ := hok
      have hve := hvd.out hok2
      have hb := hide (show hmsBody B = some (3600 * v + tl.1, k + tl.2) by rw [Hbody.out, if_pos ⟨hok1, hok2, by rw [← hve]; exact hok3⟩, ← hve])
      have hF' := hF.out
      rw [hb.out] at hF'
      replace hF' := hide hF'
      clear hve hvd
      by_cases h1 : 0 ≤ m1
      ·by_cases h2 : 0 ≤ m2
       ·have ht := hide (show tl = (60 * m1 + m2, 6) by rw [Htail.out, if_pos h1, if_pos h2])
        go_wp2_with fail
        refine (D.out _ _ (by omega)).mono ?_
        rintro e w2 ⟨rfl, rfl⟩
        go_wp2_with fail
        refine (F1.out _ _ (by omega)).mono ?_
        rintro e w2 ⟨rfl, hb1⟩
        replace hb1 := hide hb1
        go_wp2_with fail
        refine (F2.out _ _ (by omega)).mono ?_
        rintro e w3 ⟨rfl, hb2⟩
        replace hb2 := hide (bel_next hb1.out hb2)
        go_wp2
        go_ret3
        have hG := hF'.out
        rw [ht.out] at hG
        try dsimp only [Option.map] at hG
        exact ⟨hres hG (by omega) (by omega), hb2.out⟩
       ·have ht := hide (show tl = (60 * m1, 3) by rw [Htail.out, if_pos h1, if_neg h2])
        go_wp2_with fail
        refine (D.out _ _ (by omega)).mono ?_
        rintro e w2 ⟨rfl, rfl⟩
        go_wp2_with fail
        refine (F1.out _ _ (by omega)).mono ?_
        rintro e w2 ⟨rfl, hb1⟩
        replace hb1 := hide hb1
        go_wp2_with fail
        refine (F2.out _ _ (by omega)).mono ?_
        rintro e w3 ⟨rfl, hb2⟩
        replace hb2 := hide (bel_next hb1.out hb2)
        go_wp2
        go_ret3
        have hG := hF'.out
        rw [ht.out] at hG
        try dsimp only [Option.map] at hG
        exact ⟨hres hG (by omega) (by omega), hb2.out⟩
      ·have ht := hide (show tl = (0, 0) by rw [Htail.out, if_neg h1])
       go_wp2_with fail
       refine (D.out _ _ (by omega)).mono ?_
       rintro e w2 ⟨rfl, rfl⟩
       go_wp2_with fail
       refine (F1.out _ _ (by omega)).mono ?_
       rintro e w2 ⟨rfl, hb1⟩
       replace hb1 := hide hb1
       go_wp2
       go_ret3
       have hG := hF'.out
       rw [ht.out] at hG
       try dsimp only [Option.map] at hG
       exact ⟨hres hG (by omega) (by omega), hb1.out⟩
end r8_
end Go.Proofs.YtbehflfpdkedgaaGreatDoor
