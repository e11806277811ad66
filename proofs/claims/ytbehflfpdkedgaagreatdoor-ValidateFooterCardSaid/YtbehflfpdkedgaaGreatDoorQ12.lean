/-
  Texts of mine in one file: TrD, Tr, OwM, Tt, Ref12n, Ref12p, DsMath2, Ref12b, DsC, DsN, LpB. Their conditions stand in the theorems.
-/
import Derived.Test.YtbehflfpdkedgaaGreatDoorQ04
import Derived.Test.YtbehflfpdkedgaaGreatDoorQ01
import Derived.Test.YtbehflfpdkedgaaGreatDoorQ05
import Derived.Test.YtbehflfpdkedgaaGreatDoorRows
import Derived.Deep.RegionHeld3
import Derived.Deep.DeepCutAuto
import Derived.Test.YtbehflfpdkedgaaGreatDoorQ07
import Derived.Test.YtbehflfpdkedgaaGreatDoorQ08
import Derived.Deep.RegionLaw
import Derived.Lib.BytesEntry
namespace Go.Proofs.YtbehflfpdkedgaaGreatDoor
set_option linter.unusedVariables false
set_option linter.unusedSimpArgs false
set_option maxRecDepth 100000
set_option maxHeartbeats 16000000
open Go.ChangeShapes Go.WideShapes Go.ChangeAt Go.RowKit
open Go.ChangeShapes Go.WideShapes Go.ChangeAt Go.RowKit Go.Shelf
attribute [local go_sem] Oper.semAt_some
namespace tr_
def encN (l : List Int) (k : Nat) : Array Value := #[.int .i64 ((k + 1 : Nat) : Int), .agg #[.int .i64 (l[k]?.getD 0), .int .i64 (l[k + 1]?.getD 0)]]
theorem neighbors_ (A : Option Addr) (n c : Nat) (w : World) : Calls Tryz.prog 99 #[.slice A n c] w fun e w' =>
 e = .returned (.func (.func 126) #[] #[.pointer (some ⟨w.heap.size, 0, none⟩)]) ∧ w' = w.alloc (.cells #[.slice A n c] 22) := by
 go_enter Tryz.func99, Tryz.ntmps99
 go_wp2
 go_ret
 exact ⟨rfl, rfl⟩
theorem stops_ (A : Option Addr) (n c : Nat) (l : List Int) (gB m : Nat) (w0 w : World) (hn : n ≤ 1000000) (hr : Rd w0 A n (l.map (Value.int .i64))) (h0w : Below w0.heap.size w0 w) (hB : Ro w gB #[.slice A n c] 22) :
 SeqStopsK Fence.wide m Tryz.prog 126 #[.pointer (some ⟨gB, 0, none⟩)] (encN l) (Kp1 w0.heap.size gB)
  (fun xs => xs = List.range (n - 1)) (fun pre => ∃ k, k ≤ n - 1 ∧ pre = List.range k) (n - 1) w := fun lp J Jx W hW hJ hJx hY h0 => by
 have hw0 := hide (h0w.trans (hW.mono h0w.size))
 replace hB := hide (hB.below hW)
 have hYY := hide hY
 have hRR := hide hr
 clear hY hJx h0w hr
 refine callsIn_wide.2 ?_
 show Calls Tryz.prog 126 #[.func (.yield lp) #[] #[], .pointer (some ⟨gB, 0, none⟩)] W _
 go_enter Tryz.func126, Tryz.ntmps126
 go_wp2
 go_loopw [3] (fun s3 wr => ∃ k j : Nat, k ≤ n - 1 ∧ s3 = .int .i64 (j : Int) ∧ j = k + 1 ∧ J (List.range k) wr ∧ Ro wr gB #[.slice A n c] 22 ∧ Below w0.heap.size w0 wr)
  (fun s3 _ => n + 1 - (intOf s3).toNat)
 case atStart => exact ⟨0, 1, by omega, rfl, rfl, h0, hB.out, hw0.out⟩
 case round =>
  clear hB hw0 h0
  obtain ⟨k, j, hk, rfl, hj, hJ1, hB, hw⟩ := hrel
  obtain ⟨cB, _⟩ := ro_cf hB 0 (.slice A n c) rfl
  by_cases hlt : j < n
  ·obtain ⟨ad, e1, hc⟩ := (hRR.out.below hw).int (i := k) (by omega)
   obtain ⟨ad', e2, hc'⟩ := (hRR.out.below hw).int hlt
   subst e1
   cases e2
   have i1 : IntKind.i64.wrap ((j : Int) - 1) = (k : Int) := by rw [IntKind.wrap_i64]; omega
   have k0 : k < n := by omega
   have hJ2 := hJ _ _ _ none hJ1 (grown_of (bl_drew (bl_refl wr))) (fun r e => by cases e)
   obtain ⟨fn, tmps, assign, body, hy, hRd⟩ := hYY.out (List.range k) k wr.drew hJ2 (by simp; omega)
   dsimp only [encN] at hy
   rw [← hj] at hy
   generalize l[k]?.getD 0 = x at *
   generalize l[j]?.getD 0 = y at *
   have hR2 := hRd.mono (R' := fun e W3 => ∃ b, e = .returned (.bool b) ∧ ((b = true ∧ J (List.range (k + 1)) W3 ∧ Kp1 w0.heap.size gB wr W3) ∨ (b = false ∧ Jx (List.range (k + 1)) W3))) (by
    rw [List.range_succ]
    rintro e W3 (⟨rfl, h1, h2⟩ | ⟨rfl, h1⟩)
    ·exact ⟨true, rfl, .inl ⟨rfl, h1, kp1_t ⟨bel_drewN (Below.refl _ _) 1, rfl⟩ h2⟩⟩
    ·exact ⟨false, rfl, .inr ⟨rfl, h1⟩⟩)
   replace hj := hide hj
   clear hRd hJ2
   go_wp2_with fail
   refine (wpIn_wide (n := m)).1 ?_
   gi_region_with (refine ⟨fun h => by simp [Fence.wide] at h, hR2.mono ?_⟩; rintro e W3 ⟨b, rfl, hF⟩)
   all_goals
    rcases hF with ⟨rfl, hJ3, hk3⟩ | ⟨rfl, hJx3⟩
    ·have hB3 : Ro W3 gB #[.slice (some ad) n c] 22 := hk3.2.trans hB
     have hw3 := hw.trans hk3.1
     gi_wp2
     go_wp2
     go_roundw
     case rel => exact ⟨k + 1, j + 1, by have := hj.out; omega, by go_num, by rw [hj.out], hJ3, hB3, hw3⟩
     case measure => simp [intOf]; omega
    ·gi_wp2
     go_wp2
     refine bodyPost_ret (results_none rfl _ _ _) rfl ?_
     exact ⟨⟨_, rfl⟩, .inr ⟨List.range (k + 1), ⟨k + 1, by have := hj.out; omega, rfl⟩, hJx3⟩⟩
  ·go_wp2
   go_end0
   exact ⟨⟨_, rfl⟩, .inl ⟨List.range k, by rw [show k = n - 1 by omega], hJ1⟩⟩
theorem Descent (A : Option Addr) (n c : Nat) (l : List Int) (w : World) (hn : n ≤ 1000000) (hA : A = none → n = 0 ∧ c = 0) (hr : Rd w A n (l.map (Value.int .i64))) :
 Calls Tryz.prog 54 #[.slice A n c] w fun e w' => e = .returned (.int .i64 (desc l)) ∧ Below w.heap.size w w' := by
 have hl : l.length = n := by have := hr.len; simpa using this
 have HL := hide hl
 obtain ⟨d, hd⟩ : ∃ d, d = desc l := ⟨_, rfl⟩
 rw [← hd]
 replace hd := hide hd
 have St := hide (fun gB m w' h hB => stops_ A n c l gB m w w' hn hr h hB)
 have Nb := hide (fun w => neighbors_ A n c w)
 clear hr hA
 have hR := hide (Ro.new w #[.int .i64 0] 3)
 have hb := hide (bl_new w (.cells #[.int .i64 0] 3))
 refine (callsIn_wide (n := 6)).1 ?_
 refine callsIn_of_wp_marks Tryz.func54 rfl trivial ?_ rfl
 simp only [Tryz.ntmps54, List.size_toArray, List.length_cons, List.length_nil, Nat.reduceAdd, Nat.reduceSub, Array.replicate_succ, Array.replicate_zero, List.push_toArray, List.append_toArray, List.nil_append, List.cons_append]
 refine wpIn_wide.2 ?_
 go_upto_region 1 with fail
 generalize w.alloc (.cells #[.int .i64 0] 3) = u at *
 go_wp2_with fail
 refine (Nb.out _).mono ?_
 rintro e w1 ⟨rfl, rfl⟩
 have hB := Ro.new u #[.slice A n c] 22
 replace hR := hide (hR.out.alloc (.cells #[.slice A n c] 22))
 have sb := hb.out.size
 replace hb := hide (bl_alloc hb.out (.cells #[.slice A n c] 22))
 have ub : u.heap.size < (u.alloc (.cells #[.slice A n c] 22)).heap.size := by simp
 generalize u.heap.size = gB at *
 generalize u.alloc (.cells #[.slice A n c] 22) = w3 at *
 have sR := hR.out.lt
 have sW := hb.out.size
 go_wp2_with fail
 refine (wpIn_wide (n := 6)).1 ?_
 refine wpIn_rangeFunc_ownH rfl (by omega) (gf := 126) (lb := #[.pointer (some ⟨gB, 0, none⟩)]) rfl trivial (enters_of Tryz.func126 (by kernel_rfl) rfl)
  (St.out gB 5 w3 hb.out hB) kp1_t (kp1_b sW ub) (Below.refl _ _) (fun _ => rfl)
  (fun pre W => (Ro W w.heap.size #[.int .i64 0] 3 ∧ (∀ q ∈ pre, l[q]?.getD 0 < l[q + 1]?.getD 0) ∧ gB < W.heap.size) ∧ Below w.heap.size w W)
  (fun c pre W => (c = .ret ∧ ∃ p x, pre = p ++ [x] ∧ l[x + 1]?.getD 0 ≤ l[x]?.getD 0 ∧ (∀ q ∈ p, l[q]?.getD 0 < l[q + 1]?.getD 0) ∧ Ro W w.heap.size #[.int .i64 ((x + 1 : Nat) : Int)] 3) ∧ Below w.heap.size w W)
  (fun s A B row hs hg hr => ⟨⟨ro_keep hs.1.1 hg (fun r e => (hr r e).2), hs.1.2.1, Nat.lt_of_lt_of_le hs.1.2.2 hg.size⟩, ownFrom_below (β := Unit) (Nat.le_refl _) (by omega) () A B row hs.2 hg hr⟩)
  (fun c s A B row hs hg hr => ⟨by obtain ⟨⟨h1, p, x, h2, h3, h4, h5⟩, _⟩ := hs; exact ⟨h1, p, x, h2, h3, h4, ro_keep h5 hg (fun r e => (hr r e).2)⟩, ownFrom_below (β := Unit) (Nat.le_refl _) (by omega) () A B row hs.2 hg hr⟩)
  ⟨⟨hR.out, by simp, ub⟩, hb.out⟩
  (fun x a' W => ∃ gA, gB < gA ∧ Ro W gA #[.int .i64 (l[x]?.getD 0), .int .i64 (l[x + 1]?.getD 0)] 134 ∧ a' = { tmps := #[.slice A n c, undef, .pointer (some ⟨w.heap.size, 0, none⟩), .int .i64 ((x + 1 : Nat) : Int), .pointer (some ⟨gA, 0, none⟩), .slice A n c, .func (.func 126) #[] #[.pointer (some ⟨gB, 0, none⟩)], .int .i64 ((x + 1 : Nat) : Int), .agg #[.int .i64 (l[x]?.getD 0), .int .i64 (l[x + 1]?.getD 0)], undef, undef, undef, undef, undef, undef], defers := [] })
  (fun x a' _ A B row hs hg hr => by obtain ⟨gA, h1, h2, h3⟩ := hs; exact ⟨gA, h1, ro_keep h2 hg (fun r e => (hr r e).2), h3⟩)
  ?assign ?body ?done ?stop
 case assign =>
  rintro lp pre x W K ⟨⟨hR1, hp, sG⟩, hB1⟩ hK
  have s1 := hB1.size
  unfold encN
  gi_wp2
  exact hK _ _ ((KeepsOthers.alloc _ _).from _) (kp1_below (bl_new W _) s1 sG) ⟨⟨hR1.alloc _, hp, by simp; omega⟩, bl_alloc hB1 _⟩ ⟨W.heap.size, sG, Ro.new W _ _, rfl⟩
 case body =>
  rintro lp pre x a' W hl ⟨r, hr⟩ ⟨⟨hR1, hp, sG⟩, hB1⟩ ⟨gA, hgA, hX, rfl⟩ hlt
  have h1' : 1 ≤ 6 - 1 - 1 := by decide
  have s1 := hB1.size
  obtain ⟨a0, _⟩ := ro_cf hX 0 _ rfl
  obtain ⟨a1, _⟩ := ro_cf hX 1 _ rfl
  obtain ⟨c0, c1⟩ := ro_cf hR1 0 (.int .i64 0) rfl
  obtain ⟨p0, hp0⟩ : ∃ p0, p0 = l[x]?.getD 0 := ⟨_, rfl⟩
  obtain ⟨p1, hp1⟩ : ∃ p1, p1 = l[x + 1]?.getD 0 := ⟨_, rfl⟩
  rw [← hp0] at a0
  rw [← hp1] at a1
  rw [← hp0, ← hp1]
  by_cases hx : p1 ≤ p0
  ·gi_wp2
   exact ⟨(KeepsOthers.setCell _ _ _).from _, ⟨rfl, pre, x, rfl, by rw [← hp0, ← hp1]; exact hx, hp, ro_set1' hR1⟩, bl_set1 hB1 (Nat.le_refl _)⟩
  ·gi_wp2
   exact ⟨KeepsFrom.refl _ _, kp1_refl _ _ _, ⟨hR1, fun q hq => by
    rcases List.mem_append.1 hq with h | h
    ·exact hp q h
    ·simp at h; subst h; rw [← hp0, ← hp1]; omega, sG⟩, hB1⟩
 case done =>
  rintro D' xs W hD' rfl ⟨⟨hR1, hp, sG⟩, hB1⟩ hK
  obtain rfl : d = -1 := hd.out.trans <| desc_asc fun i hi => hp i (by rw [List.mem_range]; rw [HL.out] at hi; omega)
  obtain ⟨c0, c1⟩ := ro_cf hR1 0 (.int .i64 0) rfl
  go_wp2
  have hK' := (KeepsOthers.setCell W ⟨w.heap.size, 0, none⟩ (.int .i64 (-1))).same D' _ hK rfl
  refine ⟨by simp, .inl ⟨_, _, rfl, run_takeDeferred hK', ?_⟩⟩
  have hc5 := (ro_cf (ro_keep (ro_set1' (x0 := .int .i64 (-1)) hR1) (grownBy_putObj' _ D' (.deferred none)) (fun r e => by cases e; exact ⟨_, hK', rfl⟩)) 0 _ rfl).1
  exact ⟨.int .i64 (-1), by simp [results, Tryz.results54, go_sem, hc5], rfl, (bl_set1 hB1 (Nat.le_refl _)).trans (belowK_b (w := w) (Nat.le_refl _) _ D' _ _ (by omega) hK' rfl rfl)⟩
 case stop =>
  rintro D' c pre W hD' ⟨k, hk, hpre⟩ ⟨⟨rfl, p, x, rfl, hx, hp, hR1⟩, hB1⟩ hK
  obtain ⟨j, rfl⟩ : ∃ j, k = j + 1 := by
   cases k with
   | zero => simp at hpre
   | succ j => exact ⟨j, rfl⟩
  rw [List.range_succ] at hpre
  obtain ⟨rfl, e5⟩ := List.append_inj' hpre rfl
  obtain rfl : x = j := by simpa using e5
  obtain rfl : d = ((x + 1 : Nat) : Int) := hd.out.trans <| desc_at (by rw [HL.out]; omega) hx fun q hq => hp q (List.mem_range.2 hq)
  refine wpIn_wide.2 ?_
  go_wp2
  refine ⟨by simp, .inl ⟨_, _, rfl, run_takeDeferred hK, ?_⟩⟩
  have hc5 := (ro_cf (ro_keep hR1 (grownBy_putObj' _ D' (.deferred none)) (fun r e => by cases e; exact ⟨_, hK, rfl⟩)) 0 _ rfl).1
  exact ⟨.int .i64 ((x + 1 : Nat) : Int), by simp [results, Tryz.results54, go_sem, hc5], rfl, hB1.trans (belowK_b (w := w) (Nat.le_refl _) _ D' _ _ (by omega) hK rfl rfl)⟩
end tr_
namespace tr_
theorem elI64 : ElT Tryz.prog 22 2 (.int .i64 0) 8 := ⟨Tryz.underlying22, by kernel_rfl, rfl⟩
theorem Fit (A : Option Addr) (n c : Nat) (l : List Int) (k : Nat) (K : Int) (w : World) (hK : K = (k : Int)) (hk : k = 4 ∨ k = 8) (hn : n ≤ 1000000) (hA : A = none → n = 0 ∧ c = 0) (hr : Rd w A n (l.map (Value.int .i64))) (hl64 : ∀ v ∈ l, -9223372036854775808 ≤ v ∧ v < 9223372036854775808) :
 Calls Tryz.prog 97 #[.slice A n c, .int .i64 K] w fun e w' => e = .returned (.bool (fT k l)) ∧ Below w.heap.size w w' := by
 subst hK
 have hl : l.length = n := by have := hr.len; simpa using this
 obtain ⟨d, hd⟩ : ∃ d, d = fT k l := ⟨_, rfl⟩
 rw [← hd]
 have HD := hide hd
 have HL := hide hl
 have H64 := hide hl64
 have F := hide (fun (v : Int) (h : v ∈ l) (w : World) => be_.Fits v k w (by omega) (hl64 v h).1 (hl64 v h).2)
 clear hd hl hl64 hk
 go_enter Tryz.func97, Tryz.ntmps97
 go_wp2
 go_loopw [9] (fun i wr => ∃ q : Nat, q ≤ n ∧ i = .int .i64 (q : Nat) ∧ Hid ((l.take q).all (fun v => fitsB k v) = true) ∧ Below w.heap.size w wr) (fun i _ => n - (intOf i).toNat)
 case atStart => exact ⟨0, by omega, rfl, hide rfl, bl_refl _⟩
 case round =>
  obtain ⟨q, hq, rfl, ha, hw⟩ := hrel
  by_cases hlt : q < n
  ·obtain ⟨ad, e1, hc⟩ := (hr.below hw).int hlt
   subst e1
   have hm : l[q]?.getD 0 ∈ l := by rw [List.getElem?_eq_getElem (by rw [HL.out]; exact hlt)]; exact List.getElem_mem _
   have hst : (l.take (q + 1)).all (fun v => fitsB k v) = ((l.take q).all (fun v => fitsB k v) && fitsB k (l[q]?.getD 0)) := by
    rw [List.take_succ_eq_append_getElem (by rw [HL.out]; exact hlt), List.all_append, List.getElem?_eq_getElem (by rw [HL.out]; exact hlt)]
    simp
   have F1 := hide (F.out _ hm)
   generalize l[q]?.getD 0 = x at *
   rcases hf : fitsB k x with _ | _
   ·rw [hf] at F1
    have hne : d = false := by
     rw [HD.out]
     unfold fT
     rw [← Bool.not_eq_true, List.all_eq_true]
     intro h
     have := h x hm
     rw [hf] at this
     cases this
    subst hne
    clear hst hm
    go_wp2_with fail
    refine (F1.out _).mono ?_
    rintro e w' ⟨rfl, rfl⟩
    go_wp2
    go_ret
    exact ⟨rfl, hw⟩
   ·rw [hf] at F1
    rw [ha.out, hf] at hst
    have hs := hide (show (l.take (q + 1)).all (fun v => fitsB k v) = true from hst)
    clear hst hm
    go_wp2_with fail
    refine (F1.out _).mono ?_
    rintro e w' ⟨rfl, rfl⟩
    go_wp2
    go_roundw
    case rel => exact ⟨q + 1, by omega, by go_num, hs, hw⟩
    case measure => simp [intOf]; omega
  ·obtain rfl : q = n := by omega
   have hne : d = true := by
    rw [HD.out]
    have := ha.out
    rwa [List.take_of_length_le (by rw [HL.out]; omega)] at this
   subst hne
   go_wp2
   go_ret
   exact ⟨rfl, hw⟩
end tr_
section
variable {P : Program} {t e : TypeId} {s by_ : Nat} {ops : Array Oper} {rest : List Oper} {o : Oper} {a : Act} {Q : Exit → Act → World → Prop}
end
namespace tt_
theorem Check (A : Option Addr) (n c : Nat) (ts : List TT) (m : Int) (w : World) (hn : n ≤ 100000) (hA : A = none → n = 0 ∧ c = 0) (hr : Rk 3 w A n (tcs ts)) (hok : ∀ t ∈ ts, ttOk t) (b0 : -9223372036854775808 ≤ m) (b1 : m < 9223372036854775808) :
 Calls Tryz.prog 58 #[.slice A n c, .int .i64 m] w fun e w' => e = .returned (.int .i64 (chk ts m)) ∧ Below w.heap.size w w' := by
 have hl : ts.length = n := by have := hr.len; rw [tcs_len] at this; omega
 have HL := hide hl
 have HO := hide hok
 clear hok b0 b1
 obtain ⟨d, hd⟩ : ∃ d, d = chk ts m := ⟨_, rfl⟩
 rw [← hd]
 have HD := hide hd
 clear hd hl
 go_enter Tryz.func58, Tryz.ntmps58
 go_wp2
 go_loopw [11] (fun i wr => ∃ k : Nat, k ≤ n ∧ i = .int .i64 (k : Nat) ∧ Hid ((ts.take k).any (fun t => decide (t.1 = -2147483648)) = false) ∧ Hid (Below w.heap.size w wr)) (fun i _ => n - (intOf i).toNat)
 case atStart => exact ⟨0, by omega, rfl, hide rfl, hide (bl_refl _)⟩
 case round =>
  obtain ⟨k, hk, rfl, ha, hw⟩ := hrel
  by_cases hlt : k < n
  ·obtain ⟨ad, t, rfl, ht, h0, h1, h2⟩ := (hr.below hw.out).tt hlt
   have hst := any_step (fun t : TT => decide (t.1 = -2147483648)) ht
   have hw2 := hide (bl_alloc hw.out (.cells #[.int .i32 t.1, .bool t.2.1, .int .u8 t.2.2] 57))
   by_cases hm : t.1 = -2147483648
   ·have hm' : (t.1 == -2147483648) = true := by simpa using hm
    have hne : d = 9 := by rw [HD.out]; unfold chk; rw [if_pos (any_at _ ht (decide_eq_true hm))]
    subst hne
    clear hst hm ht hw
    go_wp2
    go_ret
    exact ⟨rfl, hw2.out⟩
   ·have hm' : (t.1 == -2147483648) = false := by simpa using hm
    have hs := hide (show (ts.take (k + 1)).any (fun t => decide (t.1 = -2147483648)) = false by rw [hst, ha.out]; simpa using hm)
    clear hst hm ht hw
    go_wp2
    go_roundw
    case rel => exact ⟨k + 1, by omega, by go_num, hs, hw2⟩
    case measure => simp [intOf]; omega
  ·obtain rfl : k = n := by omega
   have hAA := hide (show ts.any (fun t => decide (t.1 = -2147483648)) = false by have := ha.out; rwa [List.take_of_length_le (by rw [HL.out]; omega)] at this)
   clear ha
   go_wp2
   go_loopw [21] (fun i w2 => ∃ q : Nat, q ≤ k ∧ i = .int .i64 (q : Nat) ∧ Hid ((ts.take q).any (fun t => decide (m ≤ t.2.2)) = false) ∧ Hid (Below w.heap.size w w2)) (fun i _ => k - (intOf i).toNat)
   case atStart => exact ⟨0, by omega, rfl, hide rfl, hw⟩
   case round =>
    clear hw
    obtain ⟨q, hq, rfl, ha, hw⟩ := hrel
    by_cases hlt : q < k
    ·obtain ⟨ad, t, rfl, ht, h0, h1, h2⟩ := (hr.below hw.out).tt hlt
     have hst := any_step (fun t : TT => decide (m ≤ t.2.2)) ht
     have hw2 := hide (bl_alloc hw.out (.cells #[.int .i32 t.1, .bool t.2.1, .int .u8 t.2.2] 57))
     obtain ⟨_, _, z0, z1⟩ := HO.out t (List.mem_of_getElem? ht)
     have zw : wrap64 t.2.2 = t.2.2 := by unfold wrap64; omega
     by_cases hm : m ≤ t.2.2
     ·have hne : d = 8 := by rw [HD.out]; unfold chk; rw [if_neg (by rw [hAA.out]; decide), if_pos (any_at _ ht (decide_eq_true hm))]
      subst hne
      clear hst ht hw
      go_wp2
      go_ret
      exact ⟨rfl, hw2.out⟩
     ·have hs := hide (show (ts.take (q + 1)).any (fun t => decide (m ≤ t.2.2)) = false by rw [hst, ha.out]; simpa using hm)
      clear hst ht hw
      go_wp2
      go_roundw
      case rel => exact ⟨q + 1, by omega, by go_num, hs, hw2⟩
      case measure => simp [intOf]; omega
    ·obtain rfl : q = k := by omega
     have hB := (show ts.any (fun t => decide (m ≤ t.2.2)) = false by have := ha.out; rwa [List.take_of_length_le (by rw [HL.out]; omega)] at this)
     have hne : d = 0 := by rw [HD.out]; unfold chk; rw [if_neg (by rw [hAA.out]; decide), if_neg (by rw [hB]; decide)]
     subst hne
     clear hB ha
     go_wp2
     go_ret
     exact ⟨rfl, hw.out⟩
end tt_
theorem bS_nil : bS [] = ⟨#[]⟩ := rfl
theorem bS_size (l : List Int) : (bS l).size = l.length := by unfold bS; rw [size_mk, List.length_map]
theorem bS_append (a b : List Int) : bS a ++ bS b = bS (a ++ b) := by
 apply byt_inj.1
 rw [byt_append]
 unfold bS
 rw [byt_mk, byt_mk, byt_mk, List.map_append]
namespace r12_
theorem conv1_ (W : World) (g : Nat) (c : Int) (c0 : 0 ≤ c) (c1 : c < 256) (h : W.cell? ⟨g, 0, none⟩ = some (.int .u8 c)) : (convert 23 9 (.slice (some ⟨g, 0, none⟩) 1 1)).run Tryz.prog W = .ok (.string (bS [c])) W :=
 run_convert_bytes_back W _ _ 5 ⟨g, 0, none⟩ 1 [UInt8.ofNat c.toNat] Tryz.underlying23 Tryz.underlying5 Tryz.underlying9 (fun j hj => by
  obtain rfl : j = 0 := by simpa using hj
  have : ((UInt8.ofNat c.toNat).toNat : Int) = c := by simp; omega
  simp only [List.getElem_cons_zero, this]
  exact h)
theorem Name (A : Option Addr) (n c : Nat) (xs : List Int) (k : Nat) (w : World) (hr : Rd w A n (bys xs)) (hb : IsB xs) (hn : n ≤ 1000000) (hk : k < n) :
 Calls Tryz.prog 88 #[.slice A n c, .int .i64 k] w fun e w' => e = .returned (.tuple #[.string (bS (nameL xs k)), .bool true]) ∧ Below w.heap.size w w' := by
 have hlen : xs.length = n := by have := hr.len; simpa using this
 obtain ⟨q, h1, h2, h3, h4⟩ := twi_facts nz (xs.drop k)
 have hna : nameL xs k = (xs.drop k).take q := by
  unfold nameL
  rw [← h1]
  exact (List.take_left' (l₂ := (xs.drop k).dropWhile nz) rfl).symm.trans (by rw [List.takeWhile_append_dropWhile])
 have hna' := hide hna
 have hR := hide hr
 have hb' := hide hb
 have h3' := hide (fun j x (hj : j < q) (hx : xs[k + j]? = some x) => h3 j x hj (by rw [List.getElem?_drop]; exact hx))
 have h4' := hide (fun x (hx : xs[k + q]? = some x) => h4 x (by rw [List.getElem?_drop]; exact hx))
 have hl' := hide hlen
 have hq : k + q ≤ n := by simp at h2; omega
 have d1 : decide ((k : Int) < 0) = false := by simp
 have d2 : decide ((n : Int) ≤ (k : Int)) = false := by simp; omega
 clear h1 h2 h3 h4 hr hb hlen hna
 go_enter Tryz.func88, Tryz.ntmps88
 go_wp2_with fail
 go_loopw [6, 7] (fun sv iv wr => ∃ j : Nat, j ≤ q ∧ sv = .string (bS ((xs.drop k).take j)) ∧ iv = .int .i64 ((k + j : Nat) : Int) ∧ Rd wr A n (bys xs) ∧ Below w.heap.size w wr) (fun _ iv _ => n + 1 - (intOf iv).toNat)
 case atStart => exact ⟨0, Nat.zero_le _, by simp [bS_nil], rfl, hR.out, bl_refl _⟩
 case round =>
  clear hR
  obtain ⟨j, hj, rfl, rfl, hR, hbl⟩ := hrel
  replace hR := hide hR
  replace hbl := hide hbl
  obtain ⟨p, hp⟩ : ∃ p, k + j = p := ⟨_, rfl⟩
  rw [hp]
  by_cases hlt : p < n
  ·have dl : decide ((p : Int) < (n : Int)) = true := by simpa using hlt
   have dl2 : (p : Int) < (n : Int) := by omega
   obtain ⟨ad, x, rfl, hx, hc⟩ := rd_at hR.out hlt
   obtain ⟨x0, x1⟩ := hb'.out x (List.mem_of_getElem? hx)
   by_cases hjq : j < q
   ·have hg := h3'.out j x hjq (by rw [hp]; exact hx)
    have e : (x != 0) = true := by simpa [nz] using hg
    have hs1 : (bS ((xs.drop k).take j)).size ≤ 1000000 := by rw [bS_size, List.length_take]; omega
    have hs2 : (bS [x]).size = 1 := bS_size _
    have hnx := hide (show bS ((xs.drop k).take j) ++ bS [x] = bS ((xs.drop k).take (j + 1)) by
     rw [bS_append, List.take_add_one, List.getElem?_drop, hp, hx]
     rfl)
    generalize bS ((xs.drop k).take j) = s at *
    have cv := fun (W : World) (g : Nat) h => conv1_ W g x x0 x1 h
    generalize bS [x] = t at *
    clear hg
    replace hp := hide hp
    replace hx := hide hx
    go_wp2_with fail
    go_roundw
    case rel => exact ⟨j + 1, by omega, by rw [hnx.out], by have := hp.out; go_num, hR.out.below (by first | exact bl_new _ _ | exact bl_refl _), by first | exact bl_alloc hbl.out _ | exact hbl.out⟩
    case measure => have := hp.out; simp [intOf]; omega
   ·obtain rfl : j = q := by omega
    have hg := h4'.out x (by rw [hp]; exact hx)
    have e : (x != 0) = false := by simpa [nz] using hg
    rw [← hna'.out]
    clear hg hx hp
    go_wp2_with fail
    go_ret2
    exact ⟨rfl, hbl.out⟩
  ·obtain rfl : p = n := by omega
   obtain rfl : j = q := by omega
   have dl : decide ((p : Int) < (p : Int)) = false := by simp
   rw [← hna'.out]
   clear hp hlt
   go_wp2_with fail
   go_ret2
   exact ⟨rfl, hbl.out⟩
end r12_
theorem convR {W : World} {A : Option Addr} {n c : Nat} {xs : List Int} (hr : Rd W A n (bys xs)) (hb : IsB xs) (hn : 0 < n) : (convert 23 9 (.slice A n c)).run Tryz.prog W = .ok (.string (bS xs)) W := by
 have hl : xs.length = n := by have := hr.len; simpa using this
 obtain ⟨ad, x, rfl, _, _⟩ := rd_at hr hn
 have := run_convert_bytes_back W 23 9 5 ad c (xs.map (fun x => UInt8.ofNat x.toNat)) Tryz.underlying23 Tryz.underlying5 Tryz.underlying9 (fun j hj => by
  rw [List.length_map] at hj
  obtain ⟨ad', x, e, hx, hc⟩ := rd_at hr (i := j) (by omega)
  cases e
  rw [hc]
  have hm := hb x (List.mem_of_getElem? hx)
  have hj2 : xs[j] = x := by rw [List.getElem?_eq_getElem hj] at hx; injection hx
  have : ((UInt8.ofNat x.toNat).toNat : Int) = x := by simp; omega
  simp only [List.getElem_map, hj2, this])
 rw [List.length_map, hl] at this
 exact this
theorem convS {W : World} {ad : Addr} {n c : Nat} {xs : List Int} (hr : Rd W (some ad) n (bys xs)) (hb : IsB xs) : (convert 23 9 (.slice (some ad) n c)).run Tryz.prog W = .ok (.string (bS xs)) W := by
 rcases Nat.eq_zero_or_pos n with rfl | hp
 ·obtain rfl : xs = [] := List.eq_nil_of_length_eq_zero (by have := hr.len; simpa using this)
  exact run_convert_bytes_back W 23 9 5 ad c [] Tryz.underlying23 Tryz.underlying5 Tryz.underlying9 (fun j hj => by simp at hj)
 ·exact convR hr hb hp
theorem ixB_at : ∀ {xs : List Int} {q : Nat}, IsB xs → (∀ k x, k < q → xs[k]? = some x → ¬ x = 0) → xs[q]? = some 0 → Lib.indexByte (Lib.bytesOf xs) 0 = (q : Int)
 | [], q, _, _, h => by simp at h
 | a :: l, 0, hb, _, h => by
   simp at h
   subst h
   rfl
 | a :: l, q + 1, hb, hk, h => by
   have ih := ixB_at (xs := l) (q := q) (fun x hx => hb x (by simp [hx])) (fun k x hlt hx => hk (k + 1) x (by omega) (by simpa using hx)) (by simpa using h)
   have ha := hk 0 a (by omega) rfl
   have hr := hb a (by simp)
   have hne : (UInt8.ofNat a.toNat == 0) = false := by
    rw [beq_eq_false_iff_ne]
    intro e
    have := congrArg UInt8.toNat e
    simp at this
    omega
   unfold Lib.bytesOf at ih ⊢
   rw [List.map_cons, Lib.indexByte, hne, ih]
   simp
theorem run_ixSlice {P : Program} (w : World) (ad : Addr) (n c : Nat) (xs : List Int) (hx : xs.length = n) (hc : ∀ i v, xs[i]? = some v → w.cell? (ad.add i) = some (.int .u8 v)) (cv : Int) :
 (Extern.BytealgIndexByte.indexByte #[.slice (some ad) n c, .int .u8 cv]).run P w = .ok (.int .i64 (Lib.indexByte (Lib.bytesOf xs) cv.toNat.toUInt8)) w := by
 have hl := Lib.run_loadBytesX (P := P) w xs ad .empty (fun j x hj => hc j x hj)
 rw [hx] at hl
 have hs := Lib.run_indexByteString (P := P) ⟨(Lib.bytesOf xs).toArray⟩ cv w
 have he : (⟨ByteArray.empty.data ++ (Lib.bytesOf xs).toArray⟩ : ByteArray) = ⟨(Lib.bytesOf xs).toArray⟩ := by
  apply ByteArray.ext
  show (#[] : Array UInt8) ++ (Lib.bytesOf xs).toArray = (Lib.bytesOf xs).toArray
  simp
 rw [he] at hl
 delta Extern.BytealgIndexByte.indexByte Extern.BytealgIndexByte.indexByte.match_2 at hs ⊢
 dsimp [Array.getLit] at hs ⊢
 simp only [Extern.Bytes.bytesOf, Sem.run_bind, Sem.run_pure, hl, Result.andThen] at hs ⊢
 exact hs
namespace by_
theorem Equal1 (A B : Option Addr) (c d : Nat) (x : Int) (w : World) (h0 : 0 ≤ x) (h1 : x < 256) (hx : Rd w A 1 (bys [x])) (hy : Rd w B 1 (bys [0])) :
 Calls Tryz.prog 151 #[.slice A 1 c, .slice B 1 d] w fun e w' => e = .returned (.bool (decide (x = 0))) ∧ w = w' := by
 have c1 := convR (c := c) hx (by intro y hy; simp at hy; subst hy; exact ⟨h0, h1⟩) (by omega)
 have c2 := convR (c := d) hy (by intro y hy; simp at hy; subst hy; omega) (by omega)
 have q : ((bS [x]).toList == (bS [0]).toList) = decide (x = 0) := by
  by_cases e : x = 0
  ·subst e; rw [seq_eq rfl]; rfl
  ·rw [decide_eq_false e]
   apply seq_ne
   intro h
   have := congrArg byt h
   simp [bS, byt_mk] at this
   have := congrArg UInt8.toNat this
   simp at this
   omega
 replace q := hide q
 generalize decide (x = 0) = z at *
 generalize bS [x] = s at *
 generalize bS [0] = t at *
 clear hx hy
 go_enter Tryz.func151, Tryz.ntmps151
 go_wp2_with fail
 go_ret
 exact ⟨retb q.out, rfl⟩
theorem HasSuffix0 (A B : Option Addr) (n c d : Nat) (xs : List Int) (w : World) (hr : Rd w A n (bys xs)) (hb : IsB xs) (hn : n ≤ 1000000) (hnc : n ≤ c) (hc : c ≤ 9223372036854775807) (hy : Rd w B 1 (bys [0])) :
 Calls Tryz.prog 128 #[.slice A n c, .slice B 1 d] w fun e w' => e = .returned (.bool (decide (xs.getLast? = some 0))) ∧ w = w' := by
 have hlen : xs.length = n := by have := hr.len; simpa using this
 by_cases hp : 0 < n
 ·obtain ⟨ad, x, rfl, hx, _⟩ := rd_at hr (show n - 1 < n by omega)
  have hla : xs.getLast? = some x := by rw [List.getLast?_eq_getElem?, hlen, hx]
  have hm := hb x (List.mem_of_getElem? hx)
  have hcut := hr.cut (k := n - 1) (cap := c) (by omega) hnc
  rw [show n - (n - 1) = 1 by omega, show (bys xs).drop (n - 1) = bys [x] by
   rw [← List.map_drop]
   congr 1
   rw [List.drop_eq_getElem_cons (by omega)]
   rw [List.getElem?_eq_getElem (by omega)] at hx
   injection hx with hx
   rw [hx, List.drop_of_length_le (by omega)]] at hcut
  have E := hide (fun A' c' (h : Rd w A' 1 (bys [x])) => Equal1 A' B c' d x w hm.1 hm.2 h hy)
  have he : decide (xs.getLast? = some 0) = decide (x = 0) := by rw [hla]; simp
  rw [he]
  generalize decide (x = 0) = z at *
  have g1 : decide ((1 : Int) ≤ (n : Int)) = true := by simp; omega
  have g2 : (1 : Int) ≤ (n : Int) := by omega
  have g3 : IntKind.i64.wrap ((n : Int) - 1) = ((n - 1 : Nat) : Int) := by rw [IntKind.wrap_i64]; omega
  have g4 : n - (n - 1) = 1 := by omega
  replace hcut := hide hcut
  clear hr hy hx hla he hlen
  go_enter Tryz.func128, Tryz.ntmps128
  go_wp2_with fail
  refine (E.out _ _ ?_).mono ?_
  rotate_left
  ·rintro e w' ⟨rfl, rfl⟩
   go_wp2_with fail
   go_ret
   exact ⟨rfl, rfl⟩
  ·have := hcut.out
   rw [if_neg (by omega)] at this
   exact this
 ·obtain rfl : n = 0 := by omega
  obtain rfl : xs = [] := List.eq_nil_of_length_eq_zero hlen
  go_enter Tryz.func128, Tryz.ntmps128
  go_wp2_with fail
  go_ret
  exact ⟨rfl, rfl⟩
theorem IndexByte0 (ad : Addr) (n c q : Nat) (xs : List Int) (w : World) (hr : Rd w (some ad) n (bys xs)) (hb : IsB xs) (hk : ∀ k x, k < q → xs[k]? = some x → ¬ x = 0) (hq : xs[q]? = some 0) :
 Calls Tryz.prog 156 #[.slice (some ad) n c, .int .u8 0] w fun e w' => e = .returned (.int .i64 q) ∧ w = w' := by
 have hx := run_ixSlice (P := Tryz.prog) w ad n c xs (by have := hr.len; simpa using this) (fun i v hv => by
  have hi : i < n := by have := (List.getElem?_eq_some_iff.1 hv).1; have := hr.len; simp at this; omega
  obtain ⟨ad', x, e, h1, h2⟩ := rd_at hr hi
  cases e
  rw [h1] at hv
  cases hv
  exact h2) 0
 have hi : Lib.indexByte (Lib.bytesOf xs) (0 : Int).toNat.toUInt8 = (q : Int) := ixB_at hb hk hq
 rw [hi] at hx
 clear hr hb hk hq hi
 go_enter Tryz.func156, Tryz.ntmps156
 go_wp2_with fail
 rw [run_callFunc_extern Tryz.func179 (by kernel_rfl) (by kernel_rfl) (by kernel_rfl) (e := Extern.BytealgIndexByte.indexByte) (by kernel_rfl), hx]
 simp only [Result.andThen]
 rw [Oper.upon_value]
 go_wp2
 go_ret
 exact ⟨rfl, rfl⟩
theorem Index0 (ad : Addr) (B : Option Addr) (n c d q : Nat) (xs : List Int) (w : World) (hr : Rd w (some ad) n (bys xs)) (hb : IsB xs) (hk : ∀ k x, k < q → xs[k]? = some x → ¬ x = 0) (hq : xs[q]? = some 0) (hy : Rd w B 1 (bys [0])) :
 Calls Tryz.prog 130 #[.slice (some ad) n c, .slice B 1 d] w fun e w' => e = .returned (.int .i64 q) ∧ w = w' := by
 have C := hide (IndexByte0 ad n c q xs w hr hb hk hq)
 obtain ⟨bd, y, rfl, hy1, hy2⟩ := rd_at hy (i := 0) (by omega)
 simp at hy1
 subst hy1
 replace hy2 : w.cell? bd = some (.int .u8 0) := by simpa [Addr.add] using hy2
 clear hr hb hk hq hy
 go_enter Tryz.func130, Tryz.ntmps130
 go_wp2_with fail
 refine C.out.mono ?_
 rintro e w' ⟨rfl, rfl⟩
 go_wp2_with fail
 go_ret
 exact ⟨rfl, rfl⟩
theorem Cut0 (ad : Addr) (B : Option Addr) (n c d q : Nat) (xs : List Int) (w : World) (hr : Rd w (some ad) n (bys xs)) (hb : IsB xs) (hn : n ≤ 1000000) (hnc : n ≤ c) (hc : c ≤ 9223372036854775807) (hk : ∀ k x, k < q → xs[k]? = some x → ¬ x = 0) (hq : xs[q]? = some 0) (hy : Rd w B 1 (bys [0])) :
 Calls Tryz.prog 104 #[.slice (some ad) n c, .slice B 1 d] w fun e w' => (∃ A2 n2 c2, e = .returned (.tuple #[.slice (some ad) q c, .slice A2 n2 c2, .bool true])) ∧ Below w.heap.size w w' := by
 have C := hide (Index0 ad B n c d q xs w hr hb hk hq hy)
 have hqn : q < n := by have := (List.getElem?_eq_some_iff.1 hq).1; have := hr.len; simp at this; omega
 have d1 : decide (0 ≤ (q : Int)) = true := by simp
 have d2 : (q : Int) ≤ (c : Int) := by omega
 have d3 : (q : Int) + 1 ≤ (n : Int) := by omega
 have d4 : (0 : Int) ≤ (q : Int) + 1 := by omega
 have d5 : IntKind.i64.wrap ((q : Int) + 1) = ((q + 1 : Nat) : Int) := by rw [IntKind.wrap_i64]; omega
 clear hr hb hk hq hy
 go_enter Tryz.func104, Tryz.ntmps104
 go_wp2_with fail
 refine C.out.mono ?_
 rintro e w' ⟨rfl, rfl⟩
 go_upto_region 3 with fail
 go_quiet (fail)
 go_wp2_with fail
 all_goals go_ret3
 all_goals exact ⟨⟨_, _, _, rfl⟩, bel_drewN (bl_refl _) _⟩
end by_
namespace ds_
theorem isAllowed (x : Int) (w : World) (h0 : 0 ≤ x) (h1 : x < 256) : Calls Tryz.prog 127 #[.int .u8 x] w fun e w' => e = .returned (.bool (dsG x)) ∧ w = w' := by
 rcases (show x = 0 ∨ x = 43 ∨ x = 45 ∨ ((x == 0) = false ∧ (x == 43) = false ∧ (x == 45) = false ∧ x ≠ 0 ∧ x ≠ 43 ∧ x ≠ 45) by by_cases a : x = 43 <;> by_cases b : x = 45 <;> by_cases c : x = 0 <;> simp [a, b, c]) with rfl | rfl | rfl | ⟨a, b, c, d, f, g⟩
 ·go_enter Tryz.func127, Tryz.ntmps127
  go_wp2
  go_ret
  exact ⟨rfl, rfl⟩
 ·go_enter Tryz.func127, Tryz.ntmps127
  go_wp2
  go_ret
  exact ⟨rfl, rfl⟩
 ·go_enter Tryz.func127, Tryz.ntmps127
  go_wp2
  go_ret
  exact ⟨rfl, rfl⟩
 ·go_enter Tryz.func127, Tryz.ntmps127
  go_wp2
  all_goals go_ret
  all_goals
   refine ⟨retb ?_, rfl⟩
   unfold dsG dsA
   rw [Bool.eq_iff_iff]
   simp_all
   try omega
theorem Bad (A : Option Addr) (n c : Nat) (xs : List Int) (w : World) (hr : Rd w A n (bys xs)) (hb : IsB xs) (hn : n ≤ 1000000) (hnc : n ≤ c) (hc : c ≤ 9223372036854775807) :
 Calls Tryz.prog 100 #[.slice A n c] w fun e w' => e = .returned (.int .i64 (badL xs)) ∧ Below w.heap.size w w' := by
 have hlen : xs.length = n := by have := hr.len; simpa using this
 obtain ⟨q, h1, h2, h3, h4⟩ := twi_facts dsG xs
 have hbad := hide (show badL xs = if q < n then (q : Int) else if xs.getLast? = some 0 then -1 else n by unfold badL; rw [h1, hlen])
 generalize badL xs = z at *
 have Al := hide (fun x w h0 h1 => isAllowed x w h0 h1)
 have HS := hide (fun B w (h : Rd w A n (bys xs)) hy => by_.HasSuffix0 A B n c 1 xs w h hb hn hnc hc hy)
 have hR := hide hr
 have h3' := hide h3
 have h4' := hide h4
 have hb' := hide hb
 have hl' := hide hlen
 rw [hlen] at h2
 clear h1 h3 h4 hr hb hlen
 go_enter Tryz.func100, Tryz.ntmps100
 go_wp2
 go_loop [7] (fun iv => ∃ i : Nat, iv = .int .i64 i ∧ i ≤ q) (fun iv => n + 1 - (intOf iv).toNat)
 case atStart => exact ⟨0, rfl, Nat.zero_le _⟩
 case round =>
  obtain ⟨i, rfl, hi⟩ := hrel
  by_cases hlt : i < n
  ·have dl : decide ((i : Int) < (n : Int)) = true := by simpa using hlt
   have dl2 : (i : Int) < (n : Int) := by omega
   obtain ⟨ad, x, rfl, hx, hcl⟩ := rd_at hR.out hlt
   obtain ⟨x0, x1⟩ := hb'.out x (List.mem_of_getElem? hx)
   have Ax := hide (fun w => Al.out x w x0 x1)
   by_cases hiq : i < q
   ·have hg := h3'.out i x hiq hx
    rw [hg] at Ax
    clear hx hg
    go_wp2_with fail
    refine (Ax.out _).mono ?_
    rintro e w' ⟨rfl, rfl⟩
    go_wp2_with fail
    go_round
    case rel => exact ⟨i + 1, by go_num, by omega⟩
    case measure => simp [intOf]; omega
   ·obtain rfl : i = q := by omega
    have hg := h4'.out x hx
    rw [hg] at Ax
    clear hx hg
    go_wp2_with fail
    refine (Ax.out _).mono ?_
    rintro e w' ⟨rfl, rfl⟩
    go_wp2_with fail
    go_ret
    exact ⟨reti (by rw [hbad.out, if_pos hlt]), bl_refl _⟩
  ·obtain rfl : i = n := by omega
   obtain rfl : i = q := by omega
   have dl : decide ((i : Int) < (i : Int)) = false := by simp
   by_cases hla : xs.getLast? = some 0
   ·rw [decide_eq_true hla] at HS
    replace hla := hide hla
    go_wp2_with fail
    refine (HS.out _ _ (hR.out.alloc _) (Ow.lit _ _ [.int .u8 0] (by simp [maxLen])).rd).mono ?_
    rintro e w' ⟨rfl, rfl⟩
    go_wp2_with fail
    go_ret
    exact ⟨reti (by rw [hbad.out, if_neg (by omega), if_pos hla.out]), bl_new _ _⟩
   ·rw [decide_eq_false hla] at HS
    replace hla := hide hla
    go_wp2_with fail
    refine (HS.out _ _ (hR.out.alloc _) (Ow.lit _ _ [.int .u8 0] (by simp [maxLen])).rd).mono ?_
    rintro e w' ⟨rfl, rfl⟩
    go_wp2_with fail
    go_ret
    exact ⟨reti (by rw [hbad.out, if_neg (by omega), if_neg hla.out]), bl_new _ _⟩
theorem Valid (A : Option Addr) (n c : Nat) (xs : List Int) (w : World) (hr : Rd w A n (bys xs)) (hb : IsB xs) (hn : n ≤ 1000000) (hnc : n ≤ c) (hc : c ≤ 9223372036854775807) :
 Calls Tryz.prog 60 #[.slice A n c] w fun e w' => e = .returned (.bool (decide (badL xs = -1))) ∧ Below w.heap.size w w' := by
 have B := hide (Bad A n c xs w hr hb hn hnc hc)
 have hd : decide (badL xs = -1) = decide (badL xs < 0) := by
  have : -1 ≤ badL xs := by unfold badL; split <;> (try split) <;> omega
  rw [decide_eq_decide]
  omega
 rw [hd]
 generalize badL xs = z at *
 obtain ⟨p, hp⟩ : ∃ p, decide (z < 0) = p := ⟨_, rfl⟩
 rw [hp]
 clear hr hb hd
 go_enter Tryz.func60, Tryz.ntmps60
 go_wp2_with fail
 refine B.out.mono ?_
 rintro e w1 ⟨rfl, h1⟩
 replace h1 := hide h1
 go_wp2_with fail
 go_ret
 exact ⟨retb rfl, h1.out⟩
theorem Name (A : Option Addr) (n c : Nat) (xs : List Int) (k : Nat) (w : World) (hr : Rd w A n (bys xs)) (hb : IsB xs) (hn : n ≤ 1000000) (hnc : n ≤ c) (hc : c ≤ 9223372036854775807) (hv : badL xs = -1) (hk : k < n) :
 Calls Tryz.prog 74 #[.slice A n c, .int .i64 k] w fun e w' => e = .returned (.tuple #[.string (bS (nameL xs k)), .bool true]) ∧ Below w.heap.size w w' := by
 have hlen : xs.length = n := by have := hr.len; simpa using this
 obtain ⟨q, h1, h2, h3, h4⟩ := twi_facts nz (xs.drop k)
 have hna : nameL xs k = (xs.drop k).take q := by
  unfold nameL
  rw [← h1]
  exact (List.take_left' (l₂ := (xs.drop k).dropWhile nz) rfl).symm.trans (by rw [List.takeWhile_append_dropWhile])
 have hla := ((badL_iff xs).1 hv).2
 have hqn : q < n - k := by
  rcases Nat.lt_or_ge q (n - k) with h | h
  ·exact h
  ·rw [List.getLast?_eq_getElem?, hlen] at hla
   have := h3 (n - 1 - k) 0 (by omega) (by rw [List.getElem?_drop, show k + (n - 1 - k) = n - 1 by omega]; exact hla)
   simp [nz] at this
 have hq : (xs.drop k)[q]? = some 0 := by
  have e : (xs.drop k)[q]? = some ((xs.drop k)[q]'(by simp; omega)) := List.getElem?_eq_getElem _
  have := h4 _ e
  rw [e]
  simpa [nz] using this
 have hbk : IsB (xs.drop k) := fun x hx => hb x (List.mem_of_mem_drop hx)
 have hkk : ∀ j x, j < q → (xs.drop k)[j]? = some x → ¬ x = 0 := fun j x hj hx => by have := h3 j x hj hx; simpa [nz] using this
 obtain ⟨ad, _, rfl, _, _⟩ := rd_at hr hk
 have hcut := hr.cut (k := k) (cap := c) (by omega) hnc
 rw [if_neg (by omega), ← List.map_drop] at hcut
 have CT := hide (fun B W (h : Rd W (some (ad.add k)) (n - k) (bys (xs.drop k))) hy => by_.Cut0 (ad.add k) B (n - k) (c - k) 1 q (xs.drop k) W h hbk (by omega) (by omega) (by omega) hkk hq hy)
 have CV := hide (fun W c' (h : Rd W (some (ad.add k)) (n - k) (bys (xs.drop k))) => convS (c := c') (show Rd W (some (ad.add k)) q (bys (nameL xs k)) by rw [hna]; have := h.take (k := q) (by omega); rwa [← List.map_take] at this) (fun x hx => hbk x (by rw [hna] at hx; exact List.mem_of_mem_take hx)))
 generalize nameL xs k = nm at *
 generalize bS nm = s at *
 replace hcut := hide hcut
 have d1 : decide ((k : Int) < 0) = false := by simp
 have d2 : decide ((n : Int) ≤ (k : Int)) = false := by simp; omega
 have d3 : (k : Int) ≤ (n : Int) := by omega
 clear h1 h2 h3 h4 hr hb hlen hna hla hq hbk hkk hv
 go_enter Tryz.func74, Tryz.ntmps74
 go_wp2_with fail
 refine (CT.out _ _ (hcut.out.alloc _) (Ow.lit _ _ [.int .u8 0] (by simp [maxLen])).rd).mono ?_
 rintro e w1 ⟨⟨A2, n2, c2, rfl⟩, hb1⟩
 have hcv := CV.out w1 (c - k) ((hcut.out.alloc _).below hb1)
 replace hb1 := hide (bel_next (bl_new _ _) hb1)
 go_wp2_with fail
 go_ret2
 exact ⟨rfl, hb1.out⟩
end ds_
def spB (ts : List LP) (n : Nat) : Bool := (List.range n).all fun j => decide (j = 0) || decide (la ts (j - 1) + 2419199 ≤ la ts j)
def gsB (ts : List LP) (n : Nat) : Bool := (List.range n).all fun j => decide (j = 0) || decide (lr ts j - lr ts (j - 1) = 1) || decide (lr ts j - lr ts (j - 1) = -1)
theorem spB_one (ts : List LP) : spB ts 1 = true := by simp [spB]
theorem gsB_one (ts : List LP) : gsB ts 1 = true := by simp [gsB]
theorem spB_step (ts : List LP) (n : Nat) (h : 0 < n) : spB ts (n + 1) = (spB ts n && decide (la ts (n - 1) + 2419199 ≤ la ts n)) := by
 unfold spB
 rw [List.range_succ, List.all_append]
 simp [show ¬ n = 0 by omega]
theorem gsB_step (ts : List LP) (n : Nat) (h : 0 < n) : gsB ts (n + 1) = (gsB ts n && (decide (lr ts n - lr ts (n - 1) = 1) || decide (lr ts n - lr ts (n - 1) = -1))) := by
 unfold gsB
 rw [List.range_succ, List.all_append]
 simp [show ¬ n = 0 by omega]
theorem spB_no {ts : List LP} {i n : Nat} (hi : 0 < i) (hn : i < n) (h : ¬ la ts (i - 1) + 2419199 ≤ la ts i) : spB ts n = false := by
 rw [← Bool.not_eq_true]
 intro e
 have := List.all_eq_true.1 e i (List.mem_range.2 hn)
 simp [show ¬ i = 0 by omega] at this
 exact h this
theorem gsB_no {ts : List LP} {i n : Nat} (hi : 0 < i) (hn : i < n) (h1 : ¬ lr ts i - lr ts (i - 1) = 1) (h2 : ¬ lr ts i - lr ts (i - 1) = -1) : gsB ts n = false := by
 rw [← Bool.not_eq_true]
 intro e
 have := List.all_eq_true.1 e i (List.mem_range.2 hn)
 simp [show ¬ i = 0 by omega] at this
 rcases this with h | h
 ·exact h1 h
 ·exact h2 h
def gsN (ts : List LP) (four : Bool) : Nat := if four && exL ts then ts.length - 1 else ts.length
def stB (ts : List LP) (four : Bool) : Bool := four || decide (lr ts 0 = 1) || decide (lr ts 0 = -1)
theorem vL_parts {ts : List LP} (h : 0 < ts.length) (four : Bool) : vL ts four = (decide (0 ≤ la ts 0) && spB ts ts.length && stB ts four && gsB ts (gsN ts four)) := by
 rw [Bool.eq_iff_iff]
 constructor
 ·intro hv
  have h0 := vL_at hv h
  simp only [okL, Bool.and_eq_true] at h0
  rw [Bool.and_eq_true, Bool.and_eq_true, Bool.and_eq_true]
  refine ⟨⟨⟨h0.1, ?_⟩, h0.2⟩, ?_⟩
  ·refine List.all_eq_true.2 fun j hj => ?_
   have hj' := List.mem_range.1 hj
   cases j with
   | zero => rfl
   | succ j =>
     have := vL_at hv hj'
     simp only [okL, Bool.and_eq_true] at this
     simp [of_decide_eq_true this.1]
  ·refine List.all_eq_true.2 fun j hj => ?_
   have hj' := List.mem_range.1 hj
   cases j with
   | zero => rfl
   | succ j =>
     have hN : gsN ts four ≤ ts.length := by unfold gsN; split <;> omega
     have := vL_at hv (show j + 1 < ts.length by omega)
     simp only [okL, Bool.and_eq_true] at this
     have h2 := this.2
     simp at h2 ⊢
     rcases h2 with h2 | ⟨⟨h2, h3⟩, h4⟩
     ·exact h2
     ·exfalso
      have hx : exL ts = true := by
       unfold exL
       simp
       refine ⟨by omega, ?_⟩
       rw [show ts.length - 1 = j + 1 by omega, show ts.length - 2 = j by omega]
       omega
      unfold gsN at hj'
      rw [h3, hx] at hj'
      simp at hj'
      omega
 ·intro hv
  rw [Bool.and_eq_true, Bool.and_eq_true, Bool.and_eq_true] at hv
  obtain ⟨⟨⟨a, b⟩, c⟩, d⟩ := hv
  refine vL_of fun i hi => ?_
  cases i with
  | zero => simp only [okL, Bool.and_eq_true]; exact ⟨a, c⟩
  | succ j =>
    have b1 := List.all_eq_true.1 b (j + 1) (List.mem_range.2 hi)
    simp at b1
    simp only [okL, Bool.and_eq_true]
    refine ⟨decide_eq_true b1, ?_⟩
    by_cases hN : j + 1 < gsN ts four
    ·have d1 := List.all_eq_true.1 d (j + 1) (List.mem_range.2 hN)
     simp at d1 ⊢
     exact .inl d1
    ·unfold gsN at hN
     by_cases hf : (four && exL ts) = true
     ·rw [if_pos hf] at hN
      rw [Bool.and_eq_true] at hf
      have hx := hf.2
      unfold exL at hx
      simp at hx
      have e : lr ts (j + 1) = lr ts j := by
       have := hx.2
       rwa [show ts.length - 1 = j + 1 by omega, show ts.length - 2 = j by omega] at this
      simp
      exact .inr ⟨⟨by omega, hf.1⟩, by omega⟩
     ·rw [if_neg hf] at hN
      omega
theorem cr_cut {ts : List LP} {t : Int} {h : Nat} (hn : h ≤ ts.length) (a : ∀ i, i < h → la ts i ≤ t) (b : ∀ i, h ≤ i → i < ts.length → t < la ts i) : cr ts t = if h = 0 then 0 else lr ts (h - 1) := by
 have := crN_later (ts := ts) (t := t) (i := h) (ts.length - h) (fun j h1 h2 => b j h1 (by omega))
 unfold cr
 rw [show h + (ts.length - h) = ts.length by omega] at this
 rw [this]
 cases h with
 | zero => rfl
 | succ j =>
   rw [crN, if_pos (a j (by omega)), if_neg (by omega)]
   rfl
theorem la_mono {ts : List LP} {four : Bool} (h : vL ts four = true) {i j : Nat} (hij : i ≤ j) (hj : j < ts.length) : la ts i ≤ la ts j := by
 rcases Nat.lt_or_eq_of_le hij with h1 | rfl
 ·exact Int.le_of_lt (la_lt' h h1 hj)
 ·exact Int.le_refl _
theorem la_some {ts : List LP} {i : Nat} {t : LP} (h : ts[i]? = some t) : la ts i = t.1 ∧ lr ts i = t.2 := by unfold la lr; rw [h]; exact ⟨rfl, rfl⟩
end Go.Proofs.YtbehflfpdkedgaaGreatDoor
