/-
  Texts of mine in one file: Ref1, Ref15, Ref16. Their conditions stand in the theorems.
-/
import Derived.Test.YtbehflfpdkedgaaGreatDoorQ07
import Derived.Test.YtbehflfpdkedgaaGreatDoorQ04
import Derived.Test.YtbehflfpdkedgaaGreatDoorQ01
import Derived.Test.YtbehflfpdkedgaaGreatDoorQ05
import Derived.Deep.RegionHeld3
import Derived.Deep.DeepCutAuto
import Derived.Deep.RegionLaw
namespace Go.Proofs.YtbehflfpdkedgaaGreatDoor
set_option linter.unusedVariables false
set_option linter.unusedSimpArgs false
set_option maxRecDepth 100000
set_option maxHeartbeats 16000000
open Go.ChangeShapes Go.WideShapes Go.ChangeAt Go.RowKit
namespace r1_
def halfV (n : Int) : Int := if n = 1 then 128 else if n = 4 then 2147483648 else 9223372036854775808
theorem half (n : Int) (w : World) (h : n = 1 ∨ n = 4 ∨ n = 8) : Calls Tryz.prog 65 #[.int .i64 n] w fun e w' => e = .returned (.int .u64 (halfV n)) ∧ w = w' := by
 obtain ⟨j, rfl⟩ : ∃ j : Nat, n = j := ⟨n.toNat, by omega⟩
 have hj : 1 ≤ j ∧ j ≤ 8 := by omega
 obtain ⟨hj1, hj2⟩ := hj
 have e : halfV j = 128 * 256 ^ (j - 1) := by
  rcases (show j = 1 ∨ j = 4 ∨ j = 8 by omega) with rfl | rfl | rfl <;> simp [halfV]
 rw [e]
 clear h e
 go_enter Tryz.func65, Tryz.ntmps65
 go_wp2
 go_loop [3, 4] (fun p i => ∃ k : Nat, 1 ≤ k ∧ k ≤ j ∧ i = .int .i64 k ∧ p = .int .u64 (128 * 256 ^ (k - 1))) (fun _ i => j - (intOf i).toNat)
 case atStart => exact ⟨1, by omega, by omega, rfl, rfl⟩
 case round =>
  obtain ⟨k, hk1, hk2, rfl, rfl⟩ := hrel
  have hb : k < j → 0 ≤ (256 : Int) ^ (k - 1) ∧ (256 : Int) ^ (k - 1) ≤ 281474976710656 := by
   intro hkj
   match k, hk1, (show k ≤ 7 by omega) with
   | 1, _, _ => decide
   | 2, _, _ => decide
   | 3, _, _ => decide
   | 4, _, _ => decide
   | 5, _, _ => decide
   | 6, _, _ => decide
   | 7, _, _ => decide
  have hs : 128 * (256 : Int) ^ (k + 1 - 1) = 128 * 256 ^ (k - 1) * 256 := by
   obtain ⟨m, rfl⟩ : ∃ m, k = m + 1 := ⟨k - 1, by omega⟩
   simp only [Nat.add_sub_cancel]
   rw [Int.pow_succ]
   omega
  have Hs := hide hs; clear hs
  generalize hq : (256 : Int) ^ (k - 1) = q at *
  have Hq := hide hq; clear hq
  by_cases hlt : k < j
  ·obtain ⟨q0, q1⟩ := hb hlt
   clear hb
   go_wp2
   go_round
   case rel => exact ⟨k + 1, by omega, by omega, by go_num, by rw [Hs.out]⟩
   case measure => simp [intOf]; omega
  ·obtain rfl : k = j := by omega
   clear hb
   go_wp2
   go_ret
   exact ⟨reti (by rw [Hq.out]), rfl⟩
theorem Fits (v k : Int) (w : World) (h : k = 1 ∨ k = 4 ∨ k = 8) (hv0 : -9223372036854775808 ≤ v) (hv1 : v < 9223372036854775808) :
 Calls Tryz.prog 24 #[.int .i64 v, .int .i64 k] w fun e w' => e = .returned (.bool (fitsB k v)) ∧ w = w' := by
 rcases h with rfl | rfl | rfl
 ·go_enter Tryz.func24, Tryz.ntmps24
  go_wp2_with (go_at_call 65; refine (half 1 _ (by omega)).mono ?_; rintro e w' ⟨rfl, rfl⟩; rw [show halfV 1 = 128 from rfl])
  all_goals go_ret
  all_goals exact ⟨retb (by rw [Bool.eq_iff_iff]; simp [fitsB]; try omega), rfl⟩
 ·go_enter Tryz.func24, Tryz.ntmps24
  go_wp2_with (go_at_call 65; refine (half 4 _ (by omega)).mono ?_; rintro e w' ⟨rfl, rfl⟩; rw [show halfV 4 = 2147483648 from rfl])
  all_goals go_ret
  all_goals exact ⟨retb (by rw [Bool.eq_iff_iff]; simp [fitsB]; try omega), rfl⟩
 ·go_enter Tryz.func24, Tryz.ntmps24
  go_wp2
  go_ret
  exact ⟨retb (by simp [fitsB]), rfl⟩
end r1_
namespace r14_
end r14_
namespace r15_
theorem Same (A A' : Option Addr) (n n' c c' : Nat) (l l' : List Int) (w : World) (hn : n ≤ 9223372036854775807) (hn' : n' ≤ 9223372036854775807) (hr : Rd w A n (l.map (Value.int .i64))) (hr' : Rd w A' n' (l'.map (Value.int .i64))) :
 Calls Tryz.prog 40 #[.slice A n c, .slice A' n' c'] w fun e w' => e = .returned (.bool (decide (l = l'))) ∧ Below w.heap.size w w' := by
 have hl : l.length = n := by have := hr.len; simpa using this
 have hl' : l'.length = n' := by have := hr'.len; simpa using this
 obtain ⟨b, hb⟩ : ∃ b, b = decide (l = l') := ⟨_, rfl⟩
 rw [← hb]
 by_cases hnn : n = n'
 rotate_left
 ·have : b = false := by rw [hb]; exact decide_eq_false fun h => hnn (by rw [← hl, ← hl', h])
  subst this
  have hne : ((n : Int) != n') = true := by simp; omega
  clear hb hl hl' hr hr'
  go_enter Tryz.func40, Tryz.ntmps40
  go_wp2
  go_ret
  exact ⟨rfl, bl_refl _⟩
 subst hnn
 have HB := hide hb
 have HL := hide hl
 have HL' := hide hl'
 clear hb hl hl'
 go_enter Tryz.func40, Tryz.ntmps40
 go_wp2
 go_loopw [5] (fun i wr => ∃ k : Nat, k ≤ n ∧ i = .int .i64 (k : Nat) ∧ Hid (l.take k = l'.take k) ∧ Below w.heap.size w wr) (fun i _ => n - (intOf i).toNat)
 case atStart => exact ⟨0, by omega, rfl, hide rfl, bl_refl _⟩
 case round =>
  obtain ⟨k, hk, rfl, ht, hw⟩ := hrel
  by_cases hlt : k < n
  ·obtain ⟨ad, e1, hc⟩ := (hr.below hw).int hlt
   obtain ⟨ad', e2, hc'⟩ := (hr'.below hw).int hlt
   subst e1 e2
   have x1 : l[k]? = some (l[k]?.getD 0) := by rw [List.getElem?_eq_getElem (by rw [HL.out]; exact hlt)]; rfl
   have x2 : l'[k]? = some (l'[k]?.getD 0) := by rw [List.getElem?_eq_getElem (by rw [HL'.out]; exact hlt)]; rfl
   generalize l[k]?.getD 0 = x at *
   generalize l'[k]?.getD 0 = y at *
   by_cases hxy : x = y
   ·subst hxy
    have hs := hide (show l.take (k + 1) = l'.take (k + 1) by rw [List.take_add_one, List.take_add_one, ht.out, x1, x2])
    clear x1 x2
    go_wp2
    go_quiet (fail)
    go_wp2
    go_roundw
    case rel => exact ⟨k + 1, by omega, by go_num, hs, bel_drewN hw _⟩
    case measure => simp [intOf]; omega
   ·have hn : (x != y) = true := by simpa using hxy
    have hne : b = false := by
     rw [HB.out]
     exact decide_eq_false (fun h => by rw [h, x2] at x1; injection x1 with x1; exact hxy x1.symm)
    subst hne
    clear x1 x2
    go_wp2
    go_quiet (fail)
    go_wp2
    go_ret
    exact ⟨rfl, bel_drewN hw _⟩
  ·obtain rfl : k = n := by omega
   have hne : b = true := by
    rw [HB.out]
    refine decide_eq_true ?_
    have := ht.out
    rwa [List.take_of_length_le (by rw [HL.out]; omega), List.take_of_length_le (by rw [HL'.out]; omega)] at this
   subst hne
   go_wp2
   go_ret
   exact ⟨rfl, hw⟩
theorem Descent (A : Option Addr) (n c : Nat) (l : List Int) (w : World) (hn : n ≤ 1000000) (hr : Rd w A n (l.map (Value.int .i64))) :
 Calls Tryz.prog 25 #[.slice A n c] w fun e w' => e = .returned (.int .i64 (desc l)) ∧ Below w.heap.size w w' := by
 have hl : l.length = n := by have := hr.len; simpa using this
 obtain ⟨d, hd⟩ : ∃ d, d = desc l := ⟨_, rfl⟩
 rw [← hd]
 have HD := hide hd
 have HL := hide hl
 clear hd hl
 go_enter Tryz.func25, Tryz.ntmps25
 go_wp2
 go_loopw [3] (fun i wr => ∃ k j : Nat, k ≤ n ∧ i = .int .i64 (j : Int) ∧ j = k + 1 ∧ Hid (∀ q, q < k → l[q]?.getD 0 < l[q + 1]?.getD 0) ∧ Below w.heap.size w wr) (fun i _ => n + 1 - (intOf i).toNat)
 case atStart => exact ⟨0, 1, by omega, rfl, rfl, hide (fun q hq => by omega), bl_refl _⟩
 case round =>
  obtain ⟨k, j, hk, rfl, hj, ha, hw⟩ := hrel
  by_cases hlt : j < n
  ·obtain ⟨ad, e1, hc⟩ := (hr.below hw).int (i := k) (by omega)
   obtain ⟨ad', e2, hc'⟩ := (hr.below hw).int hlt
   subst e1
   cases e2
   have i1 : IntKind.i64.wrap ((j : Int) - 1) = (k : Int) := by rw [IntKind.wrap_i64]; omega
   obtain ⟨x, hx⟩ : ∃ x, x = l[k]?.getD 0 := ⟨_, rfl⟩
   obtain ⟨y, hy⟩ : ∃ y, y = l[j]?.getD 0 := ⟨_, rfl⟩
   rw [← hx] at hc
   rw [← hy] at hc'
   have k0 : k < n := by omega
   by_cases hxy : y ≤ x
   ·have hne : d = (j : Int) := by rw [HD.out, hj]; exact desc_at (by rw [HL.out, ← hj]; exact hlt) (by rw [← hx, ← hj, ← hy]; exact hxy) ha.out
    subst hne
    clear hx hy hj
    go_wp2
    go_quiet (fail)
    go_wp2
    go_ret
    exact ⟨rfl, bel_drewN hw _⟩
   ·have hs := hide (show ∀ q, q < j → l[q]?.getD 0 < l[q + 1]?.getD 0 by
     intro q hq
     rcases Nat.lt_or_ge q k with h | h
     ·exact ha.out q h
     ·obtain rfl : q = k := by omega
      rw [← hx, ← hj, ← hy]; omega)
    clear hx hy
    replace hj := hide hj
    go_wp2
    go_quiet (fail)
    go_wp2
    go_roundw
    case rel => exact ⟨j, j + 1, by omega, by go_num, rfl, hs, bel_drewN hw _⟩
    case measure => simp [intOf]; have := hj.out; omega
  ·have hne : d = -1 := by rw [HD.out]; exact desc_asc fun q hq => ha.out q (by rw [HL.out] at hq; omega)
   subst hne
   go_wp2
   go_ret
   exact ⟨rfl, hw⟩
theorem Fit (A : Option Addr) (n c : Nat) (l : List Int) (k : Nat) (w : World) (hk : k = 4 ∨ k = 8) (hn : n ≤ 9223372036854775807) (hr : Rd w A n (l.map (Value.int .i64))) (hl64 : ∀ v ∈ l, -9223372036854775808 ≤ v ∧ v < 9223372036854775808) :
 Calls Tryz.prog 23 #[.slice A n c, .int .i64 k] w fun e w' => e = .returned (.bool (fT k l)) ∧ Below w.heap.size w w' := by
 have hl : l.length = n := by have := hr.len; simpa using this
 obtain ⟨d, hd⟩ : ∃ d, d = fT k l := ⟨_, rfl⟩
 rw [← hd]
 have HD := hide hd
 have HL := hide hl
 have H64 := hide hl64
 have F := hide (fun (v : Int) (h : v ∈ l) (w : World) => r1_.Fits v k w (by omega) (hl64 v h).1 (hl64 v h).2)
 clear hd hl hl64 hk
 go_enter Tryz.func23, Tryz.ntmps23
 go_wp2
 go_loopw [5] (fun i wr => ∃ q : Nat, q ≤ n ∧ i = .int .i64 (q : Nat) ∧ Hid ((l.take q).all (fun v => fitsB k v) = true) ∧ Below w.heap.size w wr) (fun i _ => n - (intOf i).toNat)
 case atStart => exact ⟨0, by omega, rfl, hide rfl, bl_refl _⟩
 case round =>
  obtain ⟨q, hq, rfl, ha, hw⟩ := hrel
  by_cases hlt : q < n
  ·obtain ⟨ad, e1, hc⟩ := (hr.below hw).int hlt
   subst e1
   have hm : l[q]?.getD 0 ∈ l := by rw [List.getElem?_eq_getElem (by rw [HL.out]; exact hlt)]; exact List.getElem_mem _
   have hst : (l.take (q + 1)).all (fun v => fitsB k v) = ((l.take q).all (fun v => fitsB k v) && fitsB k (l[q]?.getD 0)) := by
    rw [List.take_succ_eq_append_getElem (by rw [HL.out]; exact hlt), List.all_append, List.getElem?_eq_getElem (by rw [HL.out]; exact hlt)]
    simp
   have F1 := hide (F.out _ hm)
   generalize l[q]?.getD 0 = x at *
   rcases hf : fitsB k x with _ | _
   ·rw [hf] at F1
    have hne : d = false := by
     rw [HD.out]
     unfold fT
     rw [← Bool.not_eq_true, List.all_eq_true]
     intro h
     have := h x hm
     rw [hf] at this
     cases this
    subst hne
    clear hst hm
    go_wp2_with fail
    refine (F1.out _).mono ?_
    rintro e w' ⟨rfl, rfl⟩
    go_wp2
    go_ret
    exact ⟨rfl, hw⟩
   ·rw [hf] at F1
    rw [ha.out, hf] at hst
    have hs := hide (show (l.take (q + 1)).all (fun v => fitsB k v) = true from hst)
    clear hst hm
    go_wp2_with fail
    refine (F1.out _).mono ?_
    rintro e w' ⟨rfl, rfl⟩
    go_wp2
    go_roundw
    case rel => exact ⟨q + 1, by omega, by go_num, hs, hw⟩
    case measure => simp [intOf]; omega
  ·obtain rfl : q = n := by omega
   have hne : d = true := by
    rw [HD.out]
    have := ha.out
    rwa [List.take_of_length_le (by rw [HL.out]; omega)] at this
   subst hne
   go_wp2
   go_ret
   exact ⟨rfl, hw⟩
end r15_
theorem Rk.tt {w : World} {A : Option Addr} {n : Nat} {ts : List TT} (h : Rk 3 w A n (tcs ts)) {i : Nat} (hi : i < n) : ∃ ad t, A = some ad ∧ ts[i]? = some t ∧ w.cell? (ad.add (i * 3)) = some (.int .i32 t.1) ∧ w.cell? ⟨(ad.add (i * 3)).block, (ad.add (i * 3)).off + 1, none⟩ = some (.bool t.2.1) ∧ w.cell? ⟨(ad.add (i * 3)).block, (ad.add (i * 3)).off + 2, none⟩ = some (.int .u8 t.2.2) := by
 have hl : ts.length = n := by have := h.len; rw [tcs_len] at this; omega
 obtain ⟨ad, e, hc⟩ := h.2 (by omega)
 have ht : ts[i]? = some (ts[i]'(by omega)) := List.getElem?_eq_getElem (by omega)
 have g := tcs_get ht
 have h1 := hc _ _ g.2.1
 have h2 := hc _ _ g.2.2
 rw [← addr_add] at h1 h2
 exact ⟨ad, _, e, ht, hc _ _ g.1, h1, h2⟩
theorem any_step {α : Type} (p : α → Bool) {ts : List α} {k : Nat} {t : α} (h : ts[k]? = some t) : (ts.take (k + 1)).any p = ((ts.take k).any p || p t) := by
 have hl := (List.getElem?_eq_some_iff.1 h).1
 rw [List.getElem?_eq_getElem hl] at h
 injection h with h
 rw [List.take_succ_eq_append_getElem hl, List.any_append, h]
 simp
theorem any_at {α : Type} (p : α → Bool) {ts : List α} {k : Nat} {t : α} (h : ts[k]? = some t) (hp : p t = true) : ts.any p = true := List.any_eq_true.2 ⟨t, List.mem_of_getElem? h, hp⟩
namespace r16_
theorem Check (A : Option Addr) (n c : Nat) (ts : List TT) (m : Int) (w : World) (hn : n ≤ 100000) (hr : Rk 3 w A n (tcs ts)) (hok : ∀ t ∈ ts, ttOk t) :
 Calls Tryz.prog 26 #[.slice A n c, .int .i64 m] w fun e w' => e = .returned (.int .i64 (chk ts m)) ∧ Below w.heap.size w w' := by
 have hl : ts.length = n := by have := hr.len; rw [tcs_len] at this; omega
 have HL := hide hl
 have HO := hide hok
 clear hok
 obtain ⟨d, hd⟩ : ∃ d, d = chk ts m := ⟨_, rfl⟩
 rw [← hd]
 have HD := hide hd
 clear hd hl
 go_enter Tryz.func26, Tryz.ntmps26
 go_wp2
 go_loopw [5] (fun i wr => ∃ k : Nat, k ≤ n ∧ i = .int .i64 (k : Nat) ∧ Hid ((ts.take k).any (fun t => decide (t.1 = -2147483648)) = false) ∧ Hid (Below w.heap.size w wr)) (fun i _ => n - (intOf i).toNat)
 case atStart => exact ⟨0, by omega, rfl, hide rfl, hide (bl_refl _)⟩
 case round =>
  obtain ⟨k, hk, rfl, ha, hw⟩ := hrel
  by_cases hlt : k < n
  ·obtain ⟨ad, t, rfl, ht, h0, h1, h2⟩ := (hr.below hw.out).tt hlt
   have hst := any_step (fun t : TT => decide (t.1 = -2147483648)) ht
   by_cases hm : t.1 = -2147483648
   ·have hm' : (t.1 == -2147483648) = true := by simpa using hm
    have hne : d = 9 := by rw [HD.out]; unfold chk; rw [if_pos (any_at _ ht (decide_eq_true hm))]
    subst hne
    clear hst hm ht
    go_wp2
    go_ret
    exact ⟨rfl, hw.out⟩
   ·have hm' : (t.1 == -2147483648) = false := by simpa using hm
    have hs := hide (show (ts.take (k + 1)).any (fun t => decide (t.1 = -2147483648)) = false by rw [hst, ha.out]; simpa using hm)
    clear hst hm ht
    go_wp2
    go_roundw
    case rel => exact ⟨k + 1, by omega, by go_num, hs, hw⟩
    case measure => simp [intOf]; omega
  ·obtain rfl : k = n := by omega
   have hA := hide (show ts.any (fun t => decide (t.1 = -2147483648)) = false by have := ha.out; rwa [List.take_of_length_le (by rw [HL.out]; omega)] at this)
   clear ha
   go_wp2
   go_loopw [6] (fun i w2 => ∃ q : Nat, q ≤ k ∧ i = .int .i64 (q : Nat) ∧ Hid ((ts.take q).any (fun t => decide (m ≤ t.2.2)) = false) ∧ Hid (Below w.heap.size w w2)) (fun i _ => k - (intOf i).toNat)
   case atStart => exact ⟨0, by omega, rfl, hide rfl, hw⟩
   case round =>
    clear hw
    obtain ⟨q, hq, rfl, ha, hw⟩ := hrel
    by_cases hlt : q < k
    ·obtain ⟨ad, t, rfl, ht, h0, h1, h2⟩ := (hr.below hw.out).tt hlt
     have hst := any_step (fun t : TT => decide (m ≤ t.2.2)) ht
     obtain ⟨_, _, z0, z1⟩ := HO.out t (List.mem_of_getElem? ht)
     have zw : wrap64 t.2.2 = t.2.2 := by unfold wrap64; omega
     by_cases hm : m ≤ t.2.2
     ·have hne : d = 8 := by rw [HD.out]; unfold chk; rw [if_neg (by rw [hA.out]; decide), if_pos (any_at _ ht (decide_eq_true hm))]
      subst hne
      clear hst ht
      go_wp2
      go_ret
      exact ⟨rfl, hw.out⟩
     ·have hs := hide (show (ts.take (q + 1)).any (fun t => decide (m ≤ t.2.2)) = false by rw [hst, ha.out]; simpa using hm)
      clear hst ht
      go_wp2
      go_roundw
      case rel => exact ⟨q + 1, by omega, by go_num, hs, hw⟩
      case measure => simp [intOf]; omega
    ·obtain rfl : q = k := by omega
     have hB := (show ts.any (fun t => decide (m ≤ t.2.2)) = false by have := ha.out; rwa [List.take_of_length_le (by rw [HL.out]; omega)] at this)
     have hne : d = 0 := by rw [HD.out]; unfold chk; rw [if_neg (by rw [hA.out]; decide), if_neg (by rw [hB]; decide)]
     subst hne
     clear hB ha
     go_wp2
     go_ret
     exact ⟨rfl, hw.out⟩
theorem tt_ne (t u : TT) (w : World) : (binOp .neq 57 (.agg #[.int .i32 t.1, .bool t.2.1, .int .u8 t.2.2]) (.agg #[.int .i32 u.1, .bool u.2.1, .int .u8 u.2.2])).run Tryz.prog w = .ok (.bool (!decide (t = u))) w := by
 obtain ⟨a, b, c⟩ := t
 obtain ⟨a', b', c'⟩ := u
 simp only [Prod.mk.injEq]
 by_cases h1 : a = a' <;> by_cases h2 : b = b' <;> by_cases h3 : c = c' <;> simp [go_sem, h1, h2, h3]
theorem Same (A A' : Option Addr) (n n' c c' : Nat) (l l' : List TT) (w : World) (hn : n ≤ 9223372036854775807) (hn' : n' ≤ 9223372036854775807) (hr : Rk 3 w A n (tcs l)) (hr' : Rk 3 w A' n' (tcs l')) :
 Calls Tryz.prog 42 #[.slice A n c, .slice A' n' c'] w fun e w' => e = .returned (.bool (decide (l = l'))) ∧ Below w.heap.size w w' := by
 have hl : l.length = n := by have := hr.len; rw [tcs_len] at this; omega
 have hl' : l'.length = n' := by have := hr'.len; rw [tcs_len] at this; omega
 obtain ⟨b, hb⟩ : ∃ b, b = decide (l = l') := ⟨_, rfl⟩
 rw [← hb]
 by_cases hnn : n = n'
 rotate_left
 ·have : b = false := by rw [hb]; exact decide_eq_false fun h => hnn (by rw [← hl, ← hl', h])
  subst this
  have hne : ((n : Int) != n') = true := by simp; omega
  clear hb hl hl' hr hr'
  go_enter Tryz.func42, Tryz.ntmps42
  go_wp2
  go_ret
  exact ⟨rfl, bl_refl _⟩
 subst hnn
 have HB := hide hb
 have HL := hide hl
 have HL' := hide hl'
 clear hb hl hl'
 go_enter Tryz.func42, Tryz.ntmps42
 go_wp2
 go_loopw [5] (fun i wr => ∃ k : Nat, k ≤ n ∧ i = .int .i64 (k : Nat) ∧ Hid (l.take k = l'.take k) ∧ Hid (Below w.heap.size w wr)) (fun i _ => n - (intOf i).toNat)
 case atStart => exact ⟨0, by omega, rfl, hide rfl, hide (bl_refl _)⟩
 case round =>
  obtain ⟨k, hk, rfl, ht, hw⟩ := hrel
  by_cases hlt : k < n
  ·obtain ⟨ad, t, e1, x1, f0, f1, f2⟩ := (hr.below hw.out).tt hlt
   obtain ⟨ad', u, e2, x2, g0, g1, g2⟩ := (hr'.below hw.out).tt hlt
   subst e1 e2
   have hq := fun w => tt_ne t u w
   by_cases hxy : t = u
   ·have hs := hide (show l.take (k + 1) = l'.take (k + 1) by rw [List.take_add_one, List.take_add_one, ht.out, x1, x2, hxy])
    rw [decide_eq_true hxy] at hq
    clear x1 x2 hxy
    go_wp2
    go_quiet (fail)
    go_wp2
    go_roundw
    case rel => exact ⟨k + 1, by omega, by go_num, hs, hide (bel_drewN hw.out _)⟩
    case measure => simp [intOf]; omega
   ·have hne : b = false := by
     rw [HB.out]
     exact decide_eq_false (fun h => by rw [h, x2] at x1; injection x1 with x1; exact hxy x1.symm)
    subst hne
    rw [decide_eq_false hxy] at hq
    clear x1 x2 hxy
    go_wp2
    go_quiet (fail)
    go_wp2
    go_ret
    exact ⟨rfl, bel_drewN hw.out _⟩
  ·obtain rfl : k = n := by omega
   have hne : b = true := by
    rw [HB.out]
    refine decide_eq_true ?_
    have := ht.out
    rwa [List.take_of_length_le (by rw [HL.out]; omega), List.take_of_length_le (by rw [HL'.out]; omega)] at this
   subst hne
   go_wp2
   go_ret
   exact ⟨rfl, hw.out⟩
end r16_
end Go.Proofs.YtbehflfpdkedgaaGreatDoor
