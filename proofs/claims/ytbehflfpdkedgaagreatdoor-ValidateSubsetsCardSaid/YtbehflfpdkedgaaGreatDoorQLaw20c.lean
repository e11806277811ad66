/-
  Texts of mine in one file: Law20c. Their conditions stand in the theorems.
-/
import Derived.Test.YtbehflfpdkedgaaGreatDoorQ33
import Derived.Test.YtbehflfpdkedgaaGreatDoorQ34
import Derived.Test.YtbehflfpdkedgaaGreatDoorQ07
import Derived.Deep.RegionHeld3
import Derived.Deep.DeepCutAuto
namespace Go.Proofs.YtbehflfpdkedgaaGreatDoor
set_option linter.unusedVariables false
set_option linter.unusedSimpArgs false
set_option maxRecDepth 100000
set_option maxHeartbeats 16000000
open Go.ChangeShapes Go.WideShapes Go.ChangeAt Go.RowKit
namespace l20_
theorem subsets (S : BkS) (C : Bk) (i : Int) (wd : Bool) (w : World) (hT : Tb w) (h : IsBk w S C) (hi : (Lit.int .u8 i).wf = true) :
 Calls Tryz.prog 6 #[.agg (blA S), .int .u8 i, .bool wd] w fun e w' => e = .returned (.bool true) ∧ Below w.heap.size w w' := by
 have hz := h.lens
 have ob := h.ok
 have o0 := h.oti
 have o1 := h.oix
 have o2 := h.oty
 have o3 := h.och
 have o4 := h.olp
 have o5 := h.osd
 have o6 := h.out_
 obtain ⟨q_, hq⟩ : ∃ q : Int, i.tmod 4 = q := ⟨_, rfl⟩
 have hi0 := wf_u8 hi
 have qa : 0 ≤ q_ := by rw [← hq]; exact Int.tmod_nonneg _ hi0.1
 have qb : q_ < 4 := by rw [← hq]; exact Int.tmod_lt_of_pos _ (by decide)
 have qw : IntKind.i64.wrap (1 + q_) = 1 + q_ := by rw [IntKind.wrap_i64]; omega
 have qw2 : IntKind.i64.wrap q_ = q_ := by rw [IntKind.wrap_i64]; omega
 have Va : 1 ≤ 1 + q_ := by omega
 have Vb : 1 + q_ ≤ 4 := by omega
 obtain ⟨fr, hfr⟩ : ∃ fr, decide (1 + q_ = 4) = fr := ⟨_, rfl⟩
 obtain ⟨K, hk, hK⟩ : ∃ k : Nat, (k = 4 ∨ k = 8) ∧ (if wd = true then (8 : Int) else 4) = (k : Int) := by cases wd; exact ⟨4, .inl rfl, rfl⟩; exact ⟨8, .inr rfl, rfl⟩
 have ZS := hide (fun w => (r14_.SizeB wd w).mono (R' := fun e w' => e = .returned (.int .i64 (K : Int)) ∧ Below w.heap.size w w') (by rintro e w' ⟨rfl, h⟩; exact ⟨by rw [hK], h⟩))
 clear hK hi hi0
 obtain ⟨⟨A0, n0, c0⟩, ⟨A1, n1, c1⟩, ⟨A2, n2, c2⟩, ⟨A3, n3, c3⟩, ⟨A4, n4, c4⟩, ⟨A5, n5, c5⟩, ⟨A6, n6, c6⟩⟩ := S
 dsimp only at hz o0 o1 o2 o3 o4 o5 o6
 obtain ⟨l0, l1, l2, l3, l4, l5, l6⟩ := hz
 obtain ⟨bs, hbs⟩ : ∃ c : Array Value, c = #[.slice A0 n0 c0, .slice A1 n1 c1, .slice A2 n2 c2, .slice A3 n3 c3, .slice A4 n4 c4, .slice A5 n5 c5, .slice A6 n6 c6] := ⟨_, rfl⟩
 have GB : Gr Tryz.prog 28 7 #[.slice A0 n0 c0, .slice A1 n1 c1, .slice A2 n2 c2, .slice A3 n3 c3, .slice A4 n4 c4, .slice A5 n5 c5, .slice A6 n6 c6] := gr_blk ⟨⟨A0, n0, c0⟩, ⟨A1, n1, c1⟩, ⟨A2, n2, c2⟩, ⟨A3, n3, c3⟩, ⟨A4, n4, c4⟩, ⟨A5, n5, c5⟩, ⟨A6, n6, c6⟩⟩
 have q0 := hide (show bs[0]? = some (.slice A0 n0 c0) by rw [hbs]; rfl)
 have q1 := hide (show bs[1]? = some (.slice A1 n1 c1) by rw [hbs]; rfl)
 have q2 := hide (show bs[2]? = some (.slice A2 n2 c2) by rw [hbs]; rfl)
 have q3 := hide (show bs[3]? = some (.slice A3 n3 c3) by rw [hbs]; rfl)
 have q4 := hide (show bs[4]? = some (.slice A4 n4 c4) by rw [hbs]; rfl)
 have q5 := hide (show bs[5]? = some (.slice A5 n5 c5) by rw [hbs]; rfl)
 have q6 := hide (show bs[6]? = some (.slice A6 n6 c6) by rw [hbs]; rfl)
 obtain ⟨F2, hF2⟩ : ∃ F, F = fewB C := ⟨_, rfl⟩
 have FW2 := hide (fun W h => show Calls Tryz.prog 10 #[.agg #[.slice A0 n0 c0, .slice A1 n1 c1, .slice A2 n2 c2, .slice A3 n3 c3, .slice A4 n4 c4, .slice A5 n5 c5, .slice A6 n6 c6]] W _ from r19_.Few ⟨⟨A0, n0, c0⟩, ⟨A1, n1, c1⟩, ⟨A2, n2, c2⟩, ⟨A3, n3, c3⟩, ⟨A4, n4, c4⟩, ⟨A5, n5, c5⟩, ⟨A6, n6, c6⟩⟩ C W h)
 rw [← hF2] at FW2
 have VB := hide (fun (T : BkS) (D : Bk) (s : T.small) W h => show Calls Tryz.prog 12 #[.agg (blA T), .int .i64 (1 + q_), .int .i64 (K : Int)] W fun e w' => e = .returned (.int .i64 (vB D fr K)) ∧ Below W.heap.size W w' from vd_.Block T D (1 + q_) fr K K W rfl hk Va Vb hfr h s)
 have V0 := hide (fun (s : BkS.small ⟨⟨A0, n0, c0⟩, ⟨A1, n1, c1⟩, ⟨A2, n2, c2⟩, ⟨A3, n3, c3⟩, ⟨A4, n4, c4⟩, ⟨A5, n5, c5⟩, ⟨A6, n6, c6⟩⟩) W h => show Calls Tryz.prog 12 #[.agg #[.slice A0 n0 c0, .slice A1 n1 c1, .slice A2 n2 c2, .slice A3 n3 c3, .slice A4 n4 c4, .slice A5 n5 c5, .slice A6 n6 c6], .int .i64 (1 + q_), .int .i64 (K : Int)] W fun e w' => e = .returned (.int .i64 (vB C fr K)) ∧ Below W.heap.size W w' from VB.out ⟨⟨A0, n0, c0⟩, ⟨A1, n1, c1⟩, ⟨A2, n2, c2⟩, ⟨A3, n3, c3⟩, ⟨A4, n4, c4⟩, ⟨A5, n5, c5⟩, ⟨A6, n6, c6⟩⟩ C s W h)
 have hBk := hide (fun h => (vB_iff C fr K).1 h)
 generalize vB C fr K = e0 at *
 show Calls Tryz.prog 6 #[.agg #[.slice A0 n0 c0, .slice A1 n1 c1, .slice A2 n2 c2, .slice A3 n3 c3, .slice A4 n4 c4, .slice A5 n5 c5, .slice A6 n6 c6], .int .u8 i, .bool wd] w _
 rw [← hbs] at FW2 V0 GB ⊢
 have NX : #[.slice A0 n0 c0, .slice A1 n1 c1, .slice A2 n2 c2, .slice A3 n3 c3, .slice A4 n4 c4, .slice A5 n5 c5, .slice A6 n6 c6] = bs := hbs.symm
 clear hk hfr
 replace hF2 := hide hF2
 replace qa := hide qa
 replace qb := hide qb
 replace Va := hide Va
 replace Vb := hide Vb
 replace hbs := hide hbs
 clear NX
 replace ob := hide ob
 replace l0 := hide l0
 replace l1 := hide l1
 replace l2 := hide l2
 replace l3 := hide l3
 replace l4 := hide l4
 replace l5 := hide l5
 replace l6 := hide l6
 replace o0 := hide o0
 replace o1 := hide o1
 replace o2 := hide o2
 replace o3 := hide o3
 replace o4 := hide o4
 replace o5 := hide o5
 replace o6 := hide o6
 have k := hide (Ro.new w bs 28)
 have hb := hide (bl_new w (.cells bs 28))
 have i3 := hide (h.below hb.out)
 have HT := hide (hT.below hb.out)
 clear h hT
 go_enter Tryz.func6, Tryz.ntmps6
 go_upto_region 1 with fail
 generalize (w.alloc (.cells bs 28)) = u at *
 go_wp2_with fail
 refine (ZS.out _).mono ?_
 rintro e wz ⟨rfl, h1⟩
 replace k := hide (k.out.below h1)
 replace i3 := hide (i3.out.below h1)
 replace HT := hide (HT.out.below h1)
 replace hb := hide (bel_next hb.out h1)
 clear h1
 clear ZS hq qw qw2
 go_wp2_with fail
 refine (awake _ HT.out).mono ?_
 rintro e wa ⟨rfl, h1⟩
 replace k := hide (k.out.below h1)
 replace i3 := hide (i3.out.below h1)
 replace HT := hide (HT.out.below h1)
 replace hb := hide (bel_next hb.out h1)
 clear h1
 go_wp2_with (refine load_row_g (by rfl) 28 _ rfl _ rfl _ _ _ k.out Tryz.underlying28 rfl GB.1 ?_)
 refine (FW2.out _ i3.out).mono ?_
 rintro e wf ⟨rfl, h1⟩
 replace k := hide (k.out.below h1)
 replace i3 := hide (i3.out.below h1)
 replace HT := hide (HT.out.below h1)
 replace hb := hide (bel_next hb.out h1)
 clear h1
 clear FW2
 cases F2
 ·go_upto_region 4 with fail
  go_wp2_with fail
  refine (awake _ HT.out).mono ?_
  rintro e wn ⟨rfl, h1⟩
  replace k := hide (k.out.below h1)
  replace i3 := hide (i3.out.below h1)
  replace HT := hide (HT.out.below h1)
  replace hb := hide (bel_next hb.out h1)
  clear h1
  go_wp2
  go_ret
  exact ⟨rfl, hb.out⟩
 ·have sm := hide (few_small i3.out hF2.out.symm)
  have sm' := sm.out
  obtain ⟨s0, s1, s2, s3, s4, s5, s6⟩ := sm'
  dsimp only at s0 s1 s2 s3 s4 s5 s6
  clear hF2
  go_wp2_with (refine load_row_g (by rfl) 28 _ rfl _ rfl _ _ _ k.out Tryz.underlying28 rfl GB.1 ?_)
  refine (V0.out sm.out _ i3.out).mono ?_
  rintro e wb ⟨rfl, h1⟩
  replace k := hide (k.out.below h1)
  replace i3 := hide (i3.out.below h1)
  replace HT := hide (HT.out.below h1)
  replace hb := hide (bel_next hb.out h1)
  clear h1
  clear V0
  by_cases z0 : e0 = 0
  rotate_left
  ·have d6 : (e0 != 0) = true := by simpa using z0
   have d7 : decide (e0 = 0) = false := decide_eq_false z0
   replace z0 := hide z0
   go_upto_region 4 with fail
   go_wp2_with fail
   refine (awake _ HT.out).mono ?_
   rintro e wn ⟨rfl, h1⟩
   replace k := hide (k.out.below h1)
   replace i3 := hide (i3.out.below h1)
   replace HT := hide (HT.out.below h1)
   replace hb := hide (bel_next hb.out h1)
   clear h1
   go_wp2
   go_ret
   exact ⟨rfl, hb.out⟩
  subst z0
  have OK := hide (hBk.out rfl)
  clear hBk
  obtain ⟨y2, _⟩ := ro_cf k.out 2 _ q2.out
  by_cases big : (255 : Int) < (n2 : Int)
  ·have db : decide ((255 : Int) < (n2 : Int)) = true := decide_eq_true big
   have db2 : decide (255 < n2) = true := decide_eq_true (by omega)
   replace big := hide big
   go_upto_region 4 with fail
   clear y2
   go_wp2_with fail
   refine (awake _ HT.out).mono ?_
   rintro e wn ⟨rfl, h1⟩
   replace k := hide (k.out.below h1)
   replace i3 := hide (i3.out.below h1)
   replace HT := hide (HT.out.below h1)
   replace hb := hide (bel_next hb.out h1)
   clear h1
   go_wp2
   go_ret
   exact ⟨rfl, hb.out⟩
  ·have db : decide ((255 : Int) < (n2 : Int)) = false := decide_eq_false big
   have db2 : decide (255 < n2) = false := decide_eq_false (by omega)
   have n2b := hide (show n2 ≤ 255 by omega)
   replace big := hide big
   go_upto_region 5 with fail
   clear y2 db db2
   go_upto_region 6 with (first | (refine wpList_store_row rfl 28 _ _ rfl _ _ rfl rfl _ _ (heap_alloc_last _ _) GB.1 (by rw [GB.2.1]; rfl) GB.2.2 ?_; rw [World.setRow_alloc_new]) | (refine load_row_g (by rfl) 28 _ rfl _ rfl _ _ _ k.out Tryz.underlying28 rfl GB.1 ?_))
   have ka0 := hide (Ro.new wb (bs) 28)
   obtain ⟨ya0, za0⟩ := ro_cf ka0.out 5 _ q5.out
   have kq0 := hide (k.out.alloc (.cells (bs) 28))
   go_upto_region 7 with fail
   clear ya0 za0 ka0 kq0 
   have ka1 := hide (Ro.new wb ((bs).setIfInBounds 5 (.slice none 0 0)) 28)
   obtain ⟨ya1, za1⟩ := ro_cf ka1.out 6 _ ((Array.getElem?_setIfInBounds_ne (by decide)).trans q6.out)
   have kq1 := hide (k.out.alloc (.cells ((bs).setIfInBounds 5 (.slice none 0 0)) 28))
   go_upto_region 8 with fail
   clear ya1 za1 ka1 kq1 
   have cxkx := hide (show ((bs).setIfInBounds 5 (.slice none 0 0)).setIfInBounds 6 (.slice none 0 0) = blA ⟨⟨A0, n0, c0⟩, ⟨A1, n1, c1⟩, ⟨A2, n2, c2⟩, ⟨A3, n3, c3⟩, ⟨A4, n4, c4⟩, ⟨none, 0, 0⟩, ⟨none, 0, 0⟩⟩ by rw [hbs.out]; rfl)
   have h1 := bl_new wb (.cells (((bs).setIfInBounds 5 (.slice none 0 0)).setIfInBounds 6 (.slice none 0 0)) 28)
   have kx := Ro.new wb (((bs).setIfInBounds 5 (.slice none 0 0)).setIfInBounds 6 (.slice none 0 0)) 28
   rw [cxkx.out] at kx h1
   rw [cxkx.out]
   replace kx := hide kx
   clear cxkx
   have Gkx := gr_blk ⟨⟨A0, n0, c0⟩, ⟨A1, n1, c1⟩, ⟨A2, n2, c2⟩, ⟨A3, n3, c3⟩, ⟨A4, n4, c4⟩, ⟨none, 0, 0⟩, ⟨none, 0, 0⟩⟩
   replace k := hide (k.out.below h1)
   replace i3 := hide (i3.out.below h1)
   replace HT := hide (HT.out.below h1)
   replace hb := hide (bel_next hb.out h1)
   clear h1
   generalize wb.alloc (.cells (blA ⟨⟨A0, n0, c0⟩, ⟨A1, n1, c1⟩, ⟨A2, n2, c2⟩, ⟨A3, n3, c3⟩, ⟨A4, n4, c4⟩, ⟨none, 0, 0⟩, ⟨none, 0, 0⟩⟩) 28) = u_kx at *
   generalize wb.heap.size = g_kx at *
   have CX := hide (fun W (i3 : IsBk W ⟨⟨A0, n0, c0⟩, ⟨A1, n1, c1⟩, ⟨A2, n2, c2⟩, ⟨A3, n3, c3⟩, ⟨A4, n4, c4⟩, ⟨A5, n5, c5⟩, ⟨A6, n6, c6⟩⟩ C) => VB.out ⟨⟨A0, n0, c0⟩, ⟨A1, n1, c1⟩, ⟨A2, n2, c2⟩, ⟨A3, n3, c3⟩, ⟨A4, n4, c4⟩, ⟨none, 0, 0⟩, ⟨none, 0, 0⟩⟩ ⟨C.ti, C.ix, C.ty, C.ch, C.lp, [], []⟩ ⟨s0, s1, s2, s3, s4, Nat.zero_le _, Nat.zero_le _⟩ W (⟨i3.oti, i3.oix, i3.oty, i3.och, i3.olp, ⟨fun _ => ⟨rfl, rfl⟩, Nat.le_refl _, by simp⟩, ⟨fun _ => ⟨rfl, rfl⟩, Nat.le_refl _, by simp⟩, i3.ti, i3.ix, i3.ty, i3.ch, i3.lp, Rd.none_ _, Rd.none_ _, ⟨ob.out.ti, ob.out.ix, ob.out.ty, ob.out.ch, ob.out.lp⟩⟩ : IsBk W ⟨⟨A0, n0, c0⟩, ⟨A1, n1, c1⟩, ⟨A2, n2, c2⟩, ⟨A3, n3, c3⟩, ⟨A4, n4, c4⟩, ⟨none, 0, 0⟩, ⟨none, 0, 0⟩⟩ ⟨C.ti, C.ix, C.ty, C.ch, C.lp, [], []⟩))
   rw [(vB_iff ⟨C.ti, C.ix, C.ty, C.ch, C.lp, [], []⟩ fr K).2 OK.out.bare] at CX
   go_wp2_with (refine load_row_g (by rfl) 28 _ rfl _ rfl _ _ _ kx.out Tryz.underlying28 rfl Gkx.1 ?_)
   refine (CX.out _ i3.out).mono ?_
   rintro e wc ⟨rfl, h1⟩
   replace k := hide (k.out.below h1)
   replace i3 := hide (i3.out.below h1)
   replace kx := hide (kx.out.below h1)
   replace HT := hide (HT.out.below h1)
   replace hb := hide (bel_next hb.out h1)
   clear h1
   clear CX kx Gkx
   go_upto_region 10 with fail
   obtain ⟨y4, _⟩ := ro_cf k.out 4 _ q4.out
   by_cases zl : n4 = 0
   ·have e1 : decide ((0 : Int) < (n4 : Int)) = false := by simp; omega
    have e2 : decide (0 < n4) = false := by simp; omega
    replace zl := hide zl
    go_upto_region 15 with fail
    clear y4
    have hcnt := OK.out.cnt
    unfold cntOk at hcnt
    simp only [Bool.and_eq_true, decide_eq_true_eq] at hcnt
    have hli : n1 = n0 := by have := hcnt.1.1.1.1; rw [l1.out, l0.out] at this; exact this
    clear hcnt
    subst hli
    have l0' := l0.out
    go_upto_region 15 with fail
    obtain ⟨y0, _⟩ := ro_cf k.out 0 _ q0.out
    obtain ⟨y1, _⟩ := ro_cf k.out 1 _ q1.out
    by_cases z : n1 = 0
    ·have d1 : ((n1 : Int) == 0) = true := by simp; omega
     have d2 : decide ((n1 : Int) = 0) = true := by simp; omega
     have d3 : decide (n1 = 0) = true := by simp; omega
     replace z := hide z
     go_wp2
     go_ret
     exact ⟨retb (by simp), hb.out⟩
    have d1 : ((n1 : Int) == 0) = false := by simp; omega
    have d2 : decide ((n1 : Int) = 0) = false := by simp; omega
    have d3 : decide (n1 = 0) = false := by simp; omega
    obtain ⟨P, hP⟩ : ∃ P, P = n1 - 1 := ⟨_, rfl⟩
    have iP : IntKind.i64.wrap ((n1 : Int) - 1) = (P : Int) := by rw [IntKind.wrap_i64]; omega
    have o0' := o0.out
    have o1' := o1.out
    have pc0 : (P : Int) ≤ (c0 : Int) := by have := o0'.2.1; dsimp only at this; omega
    have pc1 : (P : Int) ≤ (c1 : Int) := by have := o1'.2.1; dsimp only at this; omega
    have pl := hide (show P ≤ n1 by omega)
    have oz0 := hide (show (Sl.mk A0 P c0).ok from ⟨fun h => by have := o0'.1 h; dsimp only at this; omega, by dsimp only; omega, o0'.2.2⟩)
    have oz1 := hide (show (Sl.mk A1 P c1).ok from ⟨fun h => by have := o1'.1 h; dsimp only at this; omega, by dsimp only; omega, o1'.2.2⟩)
    have zn := hide z
    have hPs := hide hP
    clear z hP o0' o1'
    go_upto_region 17 with fail
    clear y0 y1 d1 d2 d3
    go_upto_region 18 with (first | (refine wpList_store_row rfl 28 _ _ rfl _ _ rfl rfl _ _ (heap_alloc_last _ _) GB.1 (by rw [GB.2.1]; rfl) GB.2.2 ?_; rw [World.setRow_alloc_new]) | (refine load_row_g (by rfl) 28 _ rfl _ rfl _ _ _ k.out Tryz.underlying28 rfl GB.1 ?_))
    have ka0 := hide (Ro.new wc (bs) 28)
    obtain ⟨ya0, za0⟩ := ro_cf ka0.out 0 _ q0.out
    have kq0 := hide (k.out.alloc (.cells (bs) 28))
    obtain ⟨yb0_0, _⟩ := ro_cf kq0.out 0 _ q0.out
    go_upto_region 19 with fail
    clear ya0 za0 ka0 kq0 yb0_0
    have ka1 := hide (Ro.new wc ((bs).setIfInBounds 0 (.slice A0 P c0)) 28)
    obtain ⟨ya1, za1⟩ := ro_cf ka1.out 1 _ ((Array.getElem?_setIfInBounds_ne (by decide)).trans q1.out)
    have kq1 := hide (k.out.alloc (.cells ((bs).setIfInBounds 0 (.slice A0 P c0)) 28))
    obtain ⟨yb1_1, _⟩ := ro_cf kq1.out 1 _ q1.out
    go_upto_region 20 with fail
    clear ya1 za1 ka1 kq1 yb1_1
    have cxkz := hide (show ((bs).setIfInBounds 0 (.slice A0 P c0)).setIfInBounds 1 (.slice A1 P c1) = blA ⟨⟨A0, P, c0⟩, ⟨A1, P, c1⟩, ⟨A2, n2, c2⟩, ⟨A3, n3, c3⟩, ⟨A4, n4, c4⟩, ⟨A5, n5, c5⟩, ⟨A6, n6, c6⟩⟩ by rw [hbs.out]; rfl)
    have h1 := bl_new wc (.cells (((bs).setIfInBounds 0 (.slice A0 P c0)).setIfInBounds 1 (.slice A1 P c1)) 28)
    have kz := Ro.new wc (((bs).setIfInBounds 0 (.slice A0 P c0)).setIfInBounds 1 (.slice A1 P c1)) 28
    rw [cxkz.out] at kz h1
    rw [cxkz.out]
    replace kz := hide kz
    clear cxkz
    have Gkz := gr_blk ⟨⟨A0, P, c0⟩, ⟨A1, P, c1⟩, ⟨A2, n2, c2⟩, ⟨A3, n3, c3⟩, ⟨A4, n4, c4⟩, ⟨A5, n5, c5⟩, ⟨A6, n6, c6⟩⟩
    replace k := hide (k.out.below h1)
    replace i3 := hide (i3.out.below h1)
    replace HT := hide (HT.out.below h1)
    replace hb := hide (bel_next hb.out h1)
    clear h1
    generalize wc.alloc (.cells (blA ⟨⟨A0, P, c0⟩, ⟨A1, P, c1⟩, ⟨A2, n2, c2⟩, ⟨A3, n3, c3⟩, ⟨A4, n4, c4⟩, ⟨A5, n5, c5⟩, ⟨A6, n6, c6⟩⟩) 28) = u_kz at *
    generalize wc.heap.size = g_kz at *
    have CZ := hide (fun W (i3 : IsBk W ⟨⟨A0, n1, c0⟩, ⟨A1, n1, c1⟩, ⟨A2, n2, c2⟩, ⟨A3, n3, c3⟩, ⟨A4, n4, c4⟩, ⟨A5, n5, c5⟩, ⟨A6, n6, c6⟩⟩ C) => VB.out ⟨⟨A0, P, c0⟩, ⟨A1, P, c1⟩, ⟨A2, n2, c2⟩, ⟨A3, n3, c3⟩, ⟨A4, n4, c4⟩, ⟨A5, n5, c5⟩, ⟨A6, n6, c6⟩⟩ ⟨C.ti.take P, C.ix.take P, C.ty, C.ch, C.lp, C.sd, C.ut⟩ ⟨by have := pl.out; dsimp only; omega, by have := pl.out; dsimp only; omega, s2, s3, s4, s5, s6⟩ W (⟨oz0.out, oz1.out, i3.oty, i3.och, i3.olp, i3.osd, i3.out_, (by have := i3.ti.take pl.out; rw [← List.map_take] at this; exact this), (by have := i3.ix.take pl.out; rw [← List.map_take] at this; exact this), i3.ty, i3.ch, i3.lp, i3.sd, i3.ut, ⟨fun v hv => ob.out.ti v (List.mem_of_mem_take hv), bytes_of_mem (fun v hv => ob.out.ix.mem v (List.mem_of_mem_take hv)), ob.out.ty, ob.out.ch, ob.out.lp⟩⟩ : IsBk W ⟨⟨A0, P, c0⟩, ⟨A1, P, c1⟩, ⟨A2, n2, c2⟩, ⟨A3, n3, c3⟩, ⟨A4, n4, c4⟩, ⟨A5, n5, c5⟩, ⟨A6, n6, c6⟩⟩ ⟨C.ti.take P, C.ix.take P, C.ty, C.ch, C.lp, C.sd, C.ut⟩))
    rw [(vB_iff ⟨C.ti.take P, C.ix.take P, C.ty, C.ch, C.lp, C.sd, C.ut⟩ fr K).2 (OK.out.lessTime P)] at CZ
    go_upto_region 21 with (first | (refine wpList_store_row rfl 28 _ _ rfl _ _ rfl rfl _ _ (heap_alloc_last _ _) GB.1 (by rw [GB.2.1]; rfl) GB.2.2 ?_; rw [World.setRow_alloc_new]) | (refine load_row_g (by rfl) 28 _ rfl _ rfl _ _ _ k.out Tryz.underlying28 rfl GB.1 ?_))
    have kw := hide (Ro.new u_kz bs 28)
    have hw1 := hide (bl_new u_kz (.cells bs 28))
    have kk := hide (k.out.alloc (.cells bs 28))
    have i4 := hide (i3.out.alloc (.cells bs 28))
    have lw := hide (World.size_alloc u_kz (.cells bs 28))
    have lk := k.out.lt
    generalize u_kz.alloc (.cells bs 28) = uw at *
    obtain ⟨y1, _⟩ := ro_cf (kk.out.alloc (.cells #[] 5)) 1 _ q1.out
    have r1 := hide (show Rd uw A1 n1 (C.ix.map (Value.int .u8)) from i4.out.ix)
    have nil1 := hide (show A1 = none → n1 = 0 ∧ c1 = 0 from o1.out.1)
    replace lk := hide lk
    go_upto_region 22 with (at_builtin; refine ap0 elU8 r1.out (.tmp 104) (.tmp 106) rfl rfl rfl rfl nil1.out (oneCells .u8 _) (by simp [maxLen]; omega) (by omega) ?_; intro A10 c10 w10 o10 h10; obtain ⟨ga, rfl, hga, hga2⟩ := o10.form (by have := zn.out; omega); have kw1 := kw.out.below h10; obtain ⟨yw1, zw1⟩ := ro_cf kw1 1 _ q1.out)
    have lw' := lw.out
    have lk' := lk.out
    have o11 := o10.setLow 1 (show u_kz.heap.size < uw.heap.size by omega) (.slice (some ⟨ga, 0, none⟩) n1 c10)
    have kw2 := ro_set kw1 1 (.slice (some ⟨ga, 0, none⟩) n1 c10)
    have cxw := hide (show bs.setIfInBounds 1 (.slice (some ⟨ga, 0, none⟩) n1 c10) = blA ⟨⟨A0, n1, c0⟩, ⟨some ⟨ga, 0, none⟩, n1, c10⟩, ⟨A2, n2, c2⟩, ⟨A3, n3, c3⟩, ⟨A4, n4, c4⟩, ⟨A5, n5, c5⟩, ⟨A6, n6, c6⟩⟩ by rw [hbs.out]; rfl)
    rw [cxw.out] at kw2
    have k1 := ro_set_ne (kk.out.below h10) (g' := u_kz.heap.size) (by omega) 1 (.slice (some ⟨ga, 0, none⟩) n1 c10)
    have hW := hide (bl_set (o := 1) (bel_next hw1.out h10) (Nat.le_refl _) (.slice (some ⟨ga, 0, none⟩) n1 c10))
    clear yw1 zw1 y1 kw1 o10 r1 i4 kk kw cxw
    replace hga := (show u_kz.heap.size < ga by omega)
    replace lw' := hide lw'
    replace lk' := hide lk'
    generalize w10.setCell ⟨u_kz.heap.size, 1, none⟩ (.slice (some ⟨ga, 0, none⟩) n1 c10) = W1 at *
    obtain ⟨ym, _⟩ := ro_cf kw2 1 (.slice (some ⟨ga, 0, none⟩) n1 c10) rfl
    obtain ⟨y2, _⟩ := ro_cf k1 2 _ q2.out
    have zp : 0 < n1 := by have := zn.out; omega
    have zpi : (0 : Int) < (n1 : Int) := by omega
    obtain ⟨ad, ea, xc⟩ := o11.rd.int zp
    cases ea
    simp only [addr_flat, Nat.zero_add] at xc
    have xf := o11.frozen 0
    have iw2 : IntKind.u8.wrap (n2 : Int) = (n2 : Int) := by have := n2b.out; rw [IntKind.wrap_u8]; omega
    have o12 := o11.set 0 (.int .u8 (n2 : Int))
    rw [map_set] at o12
    have kw3 := ro_set_ne kw2 (g' := ga) (by omega) 0 (.int .u8 (n2 : Int))
    have h1 := bl_set (o := 0) hW.out (show u_kz.heap.size ≤ ga by omega) (.int .u8 (n2 : Int))
    have oc := o12.cap
    have om := o12.capMax
    simp [maxLen] at om
    replace o12 := hide o12
    replace kw3 := hide kw3
    clear kw2 k1 hW o11 lw lw' lk lk' hga hga2
    go_upto_region 23 with fail
    clear ym y2 xc xf
    replace k := hide (k.out.below h1)
    replace i3 := hide (i3.out.below h1)
    replace kz := hide (kz.out.below h1)
    replace HT := hide (HT.out.below h1)
    replace hb := hide (bel_next hb.out h1)
    clear h1
    generalize W1.setCell ⟨ga, 0, none⟩ (.int .u8 (n2 : Int)) = W2 at *
    generalize u_kz.heap.size = gw at *
    have rw12 := hide o12.out.rd
    clear o12
    have Gkw := gr_blk ⟨⟨A0, n1, c0⟩, ⟨some ⟨ga, 0, none⟩, n1, c10⟩, ⟨A2, n2, c2⟩, ⟨A3, n3, c3⟩, ⟨A4, n4, c4⟩, ⟨A5, n5, c5⟩, ⟨A6, n6, c6⟩⟩
    have CW := hide (fun W (i3 : IsBk W ⟨⟨A0, n1, c0⟩, ⟨A1, n1, c1⟩, ⟨A2, n2, c2⟩, ⟨A3, n3, c3⟩, ⟨A4, n4, c4⟩, ⟨A5, n5, c5⟩, ⟨A6, n6, c6⟩⟩ C) (r : Rd W (some ⟨ga, 0, none⟩) n1 ((C.ix.set 0 (n2 : Int)).map (Value.int .u8))) => VB.out ⟨⟨A0, n1, c0⟩, ⟨some ⟨ga, 0, none⟩, n1, c10⟩, ⟨A2, n2, c2⟩, ⟨A3, n3, c3⟩, ⟨A4, n4, c4⟩, ⟨A5, n5, c5⟩, ⟨A6, n6, c6⟩⟩ ⟨C.ti, C.ix.set 0 (n2 : Int), C.ty, C.ch, C.lp, C.sd, C.ut⟩ ⟨s0, s1, s2, s3, s4, s5, s6⟩ W (⟨i3.oti, (⟨fun h => (by cases h), oc, by dsimp only; omega⟩ : (Sl.mk (some ⟨ga, 0, none⟩) n1 c10).ok), i3.oty, i3.och, i3.olp, i3.osd, i3.out_, i3.ti, r, i3.ty, i3.ch, i3.lp, i3.sd, i3.ut, ⟨ob.out.ti, ob.out.ix.set 0 (by omega) (by have := n2b.out; omega), ob.out.ty, ob.out.ch, ob.out.lp⟩⟩ : IsBk W ⟨⟨A0, n1, c0⟩, ⟨some ⟨ga, 0, none⟩, n1, c10⟩, ⟨A2, n2, c2⟩, ⟨A3, n3, c3⟩, ⟨A4, n4, c4⟩, ⟨A5, n5, c5⟩, ⟨A6, n6, c6⟩⟩ ⟨C.ti, C.ix.set 0 (n2 : Int), C.ty, C.ch, C.lp, C.sd, C.ut⟩))
    rw [show vB ⟨C.ti, C.ix.set 0 (n2 : Int), C.ty, C.ch, C.lp, C.sd, C.ut⟩ fr K = 8 from OK.out.badIndex (by simp) (v := (n2 : Int)) (List.mem_of_getElem? (i := 0) (by rw [List.getElem?_set_self (by rw [l1.out]; exact zp)])) (by rw [l2.out]; exact Int.le_refl _)] at CW
    go_wp2_with (first | (refine load_row_g (by rfl) 28 _ rfl _ rfl _ _ _ kz.out Tryz.underlying28 rfl Gkz.1 ?_) | (refine load_row_g (by rfl) 28 _ rfl _ rfl _ _ _ kw3.out Tryz.underlying28 rfl Gkw.1 ?_))
    refine (CZ.out _ i3.out).mono ?_
    rintro e wy ⟨rfl, h1⟩
    replace k := hide (k.out.below h1)
    replace i3 := hide (i3.out.below h1)
    replace kz := hide (kz.out.below h1)
    replace kw3 := hide (kw3.out.below h1)
    replace rw12 := hide (rw12.out.below h1)
    replace HT := hide (HT.out.below h1)
    replace hb := hide (bel_next hb.out h1)
    clear h1
    go_wp2_with (first | (refine load_row_g (by rfl) 28 _ rfl _ rfl _ _ _ kz.out Tryz.underlying28 rfl Gkz.1 ?_) | (refine load_row_g (by rfl) 28 _ rfl _ rfl _ _ _ kw3.out Tryz.underlying28 rfl Gkw.1 ?_))
    refine (CW.out _ i3.out rw12.out).mono ?_
    rintro e wx ⟨rfl, h1⟩
    replace k := hide (k.out.below h1)
    replace i3 := hide (i3.out.below h1)
    replace kz := hide (kz.out.below h1)
    replace kw3 := hide (kw3.out.below h1)
    replace rw12 := hide (rw12.out.below h1)
    replace HT := hide (HT.out.below h1)
    replace hb := hide (bel_next hb.out h1)
    clear h1
    go_wp2
    go_ret
    exact ⟨rfl, hb.out⟩
   ·have e1 : decide ((0 : Int) < (n4 : Int)) = true := by simp; omega
    have e2 : decide (0 < n4) = true := by simp; omega
    obtain ⟨P4, hP4⟩ : ∃ P, P = n4 - 1 := ⟨_, rfl⟩
    have iP4 : IntKind.i64.wrap ((n4 : Int) - 1) = (P4 : Int) := by rw [IntKind.wrap_i64]; omega
    have o4' := o4.out
    have pc4 : (P4 : Int) ≤ (c4 : Int) := by have := o4'.2.1; dsimp only at this; omega
    have oz4 := hide (show (Sl.mk A4 P4 c4).ok from ⟨fun h => by have := o4'.1 h; dsimp only at this; omega, by dsimp only; omega, o4'.2.2⟩)
    have p4 := hide (show P4 ≤ n4 by omega)
    have p4l := hide (show P4 < C.lp.length by rw [l4.out]; omega)
    clear o4' hP4
    replace zl := hide zl
    go_upto_region 11 with fail
    clear y4 e1 e2
    go_upto_region 12 with (first | (refine wpList_store_row rfl 28 _ _ rfl _ _ rfl rfl _ _ (heap_alloc_last _ _) GB.1 (by rw [GB.2.1]; rfl) GB.2.2 ?_; rw [World.setRow_alloc_new]) | (refine load_row_g (by rfl) 28 _ rfl _ rfl _ _ _ k.out Tryz.underlying28 rfl GB.1 ?_))
    have ka0 := hide (Ro.new wc (bs) 28)
    obtain ⟨ya0, za0⟩ := ro_cf ka0.out 4 _ q4.out
    have kq0 := hide (k.out.alloc (.cells (bs) 28))
    obtain ⟨yb0_4, _⟩ := ro_cf kq0.out 4 _ q4.out
    go_upto_region 13 with fail
    clear ya0 za0 ka0 kq0 yb0_4
    have cxky := hide (show (bs).setIfInBounds 4 (.slice A4 P4 c4) = blA ⟨⟨A0, n0, c0⟩, ⟨A1, n1, c1⟩, ⟨A2, n2, c2⟩, ⟨A3, n3, c3⟩, ⟨A4, P4, c4⟩, ⟨A5, n5, c5⟩, ⟨A6, n6, c6⟩⟩ by rw [hbs.out]; rfl)
    have h1 := bl_new wc (.cells ((bs).setIfInBounds 4 (.slice A4 P4 c4)) 28)
    have ky := Ro.new wc ((bs).setIfInBounds 4 (.slice A4 P4 c4)) 28
    rw [cxky.out] at ky h1
    rw [cxky.out]
    replace ky := hide ky
    clear cxky
    have Gky := gr_blk ⟨⟨A0, n0, c0⟩, ⟨A1, n1, c1⟩, ⟨A2, n2, c2⟩, ⟨A3, n3, c3⟩, ⟨A4, P4, c4⟩, ⟨A5, n5, c5⟩, ⟨A6, n6, c6⟩⟩
    replace k := hide (k.out.below h1)
    replace i3 := hide (i3.out.below h1)
    replace HT := hide (HT.out.below h1)
    replace hb := hide (bel_next hb.out h1)
    clear h1
    generalize wc.alloc (.cells (blA ⟨⟨A0, n0, c0⟩, ⟨A1, n1, c1⟩, ⟨A2, n2, c2⟩, ⟨A3, n3, c3⟩, ⟨A4, P4, c4⟩, ⟨A5, n5, c5⟩, ⟨A6, n6, c6⟩⟩) 28) = u_ky at *
    generalize wc.heap.size = g_ky at *
    have CY := hide (fun W (i3 : IsBk W ⟨⟨A0, n0, c0⟩, ⟨A1, n1, c1⟩, ⟨A2, n2, c2⟩, ⟨A3, n3, c3⟩, ⟨A4, n4, c4⟩, ⟨A5, n5, c5⟩, ⟨A6, n6, c6⟩⟩ C) => VB.out ⟨⟨A0, n0, c0⟩, ⟨A1, n1, c1⟩, ⟨A2, n2, c2⟩, ⟨A3, n3, c3⟩, ⟨A4, P4, c4⟩, ⟨A5, n5, c5⟩, ⟨A6, n6, c6⟩⟩ ⟨C.ti, C.ix, C.ty, C.ch, C.lp.take P4, C.sd, C.ut⟩ ⟨s0, s1, s2, s3, by have := p4.out; dsimp only; omega, s5, s6⟩ W (⟨i3.oti, i3.oix, i3.oty, i3.och, oz4.out, i3.osd, i3.out_, i3.ti, i3.ix, i3.ty, i3.ch, (by rw [← lcs_take]; exact i3.lp.take p4.out), i3.sd, i3.ut, ⟨ob.out.ti, ob.out.ix, ob.out.ty, ob.out.ch, fun t ht => ob.out.lp t (List.mem_of_mem_take ht)⟩⟩ : IsBk W ⟨⟨A0, n0, c0⟩, ⟨A1, n1, c1⟩, ⟨A2, n2, c2⟩, ⟨A3, n3, c3⟩, ⟨A4, P4, c4⟩, ⟨A5, n5, c5⟩, ⟨A6, n6, c6⟩⟩ ⟨C.ti, C.ix, C.ty, C.ch, C.lp.take P4, C.sd, C.ut⟩))
    rw [(vB_iff ⟨C.ti, C.ix, C.ty, C.ch, C.lp.take P4, C.sd, C.ut⟩ fr K).2 (OK.out.lessLeap p4l.out)] at CY
    go_wp2_with (refine load_row_g (by rfl) 28 _ rfl _ rfl _ _ _ ky.out Tryz.underlying28 rfl Gky.1 ?_)
    refine (CY.out _ i3.out).mono ?_
    rintro e we ⟨rfl, h1⟩
    replace k := hide (k.out.below h1)
    replace i3 := hide (i3.out.below h1)
    replace ky := hide (ky.out.below h1)
    replace HT := hide (HT.out.below h1)
    replace hb := hide (bel_next hb.out h1)
    clear h1
    clear CY ky Gky iP4 pc4
    go_upto_region 15 with fail
    have hcnt := OK.out.cnt
    unfold cntOk at hcnt
    simp only [Bool.and_eq_true, decide_eq_true_eq] at hcnt
    have hli : n1 = n0 := by have := hcnt.1.1.1.1; rw [l1.out, l0.out] at this; exact this
    clear hcnt
    subst hli
    have l0' := l0.out
    go_upto_region 15 with fail
    obtain ⟨y0, _⟩ := ro_cf k.out 0 _ q0.out
    obtain ⟨y1, _⟩ := ro_cf k.out 1 _ q1.out
    by_cases z : n1 = 0
    ·have d1 : ((n1 : Int) == 0) = true := by simp; omega
     have d2 : decide ((n1 : Int) = 0) = true := by simp; omega
     have d3 : decide (n1 = 0) = true := by simp; omega
     replace z := hide z
     go_wp2
     go_ret
     exact ⟨retb (by simp), hb.out⟩
    have d1 : ((n1 : Int) == 0) = false := by simp; omega
    have d2 : decide ((n1 : Int) = 0) = false := by simp; omega
    have d3 : decide (n1 = 0) = false := by simp; omega
    obtain ⟨P, hP⟩ : ∃ P, P = n1 - 1 := ⟨_, rfl⟩
    have iP : IntKind.i64.wrap ((n1 : Int) - 1) = (P : Int) := by rw [IntKind.wrap_i64]; omega
    have o0' := o0.out
    have o1' := o1.out
    have pc0 : (P : Int) ≤ (c0 : Int) := by have := o0'.2.1; dsimp only at this; omega
    have pc1 : (P : Int) ≤ (c1 : Int) := by have := o1'.2.1; dsimp only at this; omega
    have pl := hide (show P ≤ n1 by omega)
    have oz0 := hide (show (Sl.mk A0 P c0).ok from ⟨fun h => by have := o0'.1 h; dsimp only at this; omega, by dsimp only; omega, o0'.2.2⟩)
    have oz1 := hide (show (Sl.mk A1 P c1).ok from ⟨fun h => by have := o1'.1 h; dsimp only at this; omega, by dsimp only; omega, o1'.2.2⟩)
    have zn := hide z
    have hPs := hide hP
    clear z hP o0' o1'
    go_upto_region 17 with fail
    clear y0 y1 d1 d2 d3
    go_upto_region 18 with (first | (refine wpList_store_row rfl 28 _ _ rfl _ _ rfl rfl _ _ (heap_alloc_last _ _) GB.1 (by rw [GB.2.1]; rfl) GB.2.2 ?_; rw [World.setRow_alloc_new]) | (refine load_row_g (by rfl) 28 _ rfl _ rfl _ _ _ k.out Tryz.underlying28 rfl GB.1 ?_))
    have ka0 := hide (Ro.new we (bs) 28)
    obtain ⟨ya0, za0⟩ := ro_cf ka0.out 0 _ q0.out
    have kq0 := hide (k.out.alloc (.cells (bs) 28))
    obtain ⟨yb0_0, _⟩ := ro_cf kq0.out 0 _ q0.out
    go_upto_region 19 with fail
    clear ya0 za0 ka0 kq0 yb0_0
    have ka1 := hide (Ro.new we ((bs).setIfInBounds 0 (.slice A0 P c0)) 28)
    obtain ⟨ya1, za1⟩ := ro_cf ka1.out 1 _ ((Array.getElem?_setIfInBounds_ne (by decide)).trans q1.out)
    have kq1 := hide (k.out.alloc (.cells ((bs).setIfInBounds 0 (.slice A0 P c0)) 28))
    obtain ⟨yb1_1, _⟩ := ro_cf kq1.out 1 _ q1.out
    go_upto_region 20 with fail
    clear ya1 za1 ka1 kq1 yb1_1
    have cxkz := hide (show ((bs).setIfInBounds 0 (.slice A0 P c0)).setIfInBounds 1 (.slice A1 P c1) = blA ⟨⟨A0, P, c0⟩, ⟨A1, P, c1⟩, ⟨A2, n2, c2⟩, ⟨A3, n3, c3⟩, ⟨A4, n4, c4⟩, ⟨A5, n5, c5⟩, ⟨A6, n6, c6⟩⟩ by rw [hbs.out]; rfl)
    have h1 := bl_new we (.cells (((bs).setIfInBounds 0 (.slice A0 P c0)).setIfInBounds 1 (.slice A1 P c1)) 28)
    have kz := Ro.new we (((bs).setIfInBounds 0 (.slice A0 P c0)).setIfInBounds 1 (.slice A1 P c1)) 28
    rw [cxkz.out] at kz h1
    rw [cxkz.out]
    replace kz := hide kz
    clear cxkz
    have Gkz := gr_blk ⟨⟨A0, P, c0⟩, ⟨A1, P, c1⟩, ⟨A2, n2, c2⟩, ⟨A3, n3, c3⟩, ⟨A4, n4, c4⟩, ⟨A5, n5, c5⟩, ⟨A6, n6, c6⟩⟩
    replace k := hide (k.out.below h1)
    replace i3 := hide (i3.out.below h1)
    replace HT := hide (HT.out.below h1)
    replace hb := hide (bel_next hb.out h1)
    clear h1
    generalize we.alloc (.cells (blA ⟨⟨A0, P, c0⟩, ⟨A1, P, c1⟩, ⟨A2, n2, c2⟩, ⟨A3, n3, c3⟩, ⟨A4, n4, c4⟩, ⟨A5, n5, c5⟩, ⟨A6, n6, c6⟩⟩) 28) = u_kz at *
    generalize we.heap.size = g_kz at *
    have CZ := hide (fun W (i3 : IsBk W ⟨⟨A0, n1, c0⟩, ⟨A1, n1, c1⟩, ⟨A2, n2, c2⟩, ⟨A3, n3, c3⟩, ⟨A4, n4, c4⟩, ⟨A5, n5, c5⟩, ⟨A6, n6, c6⟩⟩ C) => VB.out ⟨⟨A0, P, c0⟩, ⟨A1, P, c1⟩, ⟨A2, n2, c2⟩, ⟨A3, n3, c3⟩, ⟨A4, n4, c4⟩, ⟨A5, n5, c5⟩, ⟨A6, n6, c6⟩⟩ ⟨C.ti.take P, C.ix.take P, C.ty, C.ch, C.lp, C.sd, C.ut⟩ ⟨by have := pl.out; dsimp only; omega, by have := pl.out; dsimp only; omega, s2, s3, s4, s5, s6⟩ W (⟨oz0.out, oz1.out, i3.oty, i3.och, i3.olp, i3.osd, i3.out_, (by have := i3.ti.take pl.out; rw [← List.map_take] at this; exact this), (by have := i3.ix.take pl.out; rw [← List.map_take] at this; exact this), i3.ty, i3.ch, i3.lp, i3.sd, i3.ut, ⟨fun v hv => ob.out.ti v (List.mem_of_mem_take hv), bytes_of_mem (fun v hv => ob.out.ix.mem v (List.mem_of_mem_take hv)), ob.out.ty, ob.out.ch, ob.out.lp⟩⟩ : IsBk W ⟨⟨A0, P, c0⟩, ⟨A1, P, c1⟩, ⟨A2, n2, c2⟩, ⟨A3, n3, c3⟩, ⟨A4, n4, c4⟩, ⟨A5, n5, c5⟩, ⟨A6, n6, c6⟩⟩ ⟨C.ti.take P, C.ix.take P, C.ty, C.ch, C.lp, C.sd, C.ut⟩))
    rw [(vB_iff ⟨C.ti.take P, C.ix.take P, C.ty, C.ch, C.lp, C.sd, C.ut⟩ fr K).2 (OK.out.lessTime P)] at CZ
    go_upto_region 21 with (first | (refine wpList_store_row rfl 28 _ _ rfl _ _ rfl rfl _ _ (heap_alloc_last _ _) GB.1 (by rw [GB.2.1]; rfl) GB.2.2 ?_; rw [World.setRow_alloc_new]) | (refine load_row_g (by rfl) 28 _ rfl _ rfl _ _ _ k.out Tryz.underlying28 rfl GB.1 ?_))
    have kw := hide (Ro.new u_kz bs 28)
    have hw1 := hide (bl_new u_kz (.cells bs 28))
    have kk := hide (k.out.alloc (.cells bs 28))
    have i4 := hide (i3.out.alloc (.cells bs 28))
    have lw := hide (World.size_alloc u_kz (.cells bs 28))
    have lk := k.out.lt
    generalize u_kz.alloc (.cells bs 28) = uw at *
    obtain ⟨y1, _⟩ := ro_cf (kk.out.alloc (.cells #[] 5)) 1 _ q1.out
    have r1 := hide (show Rd uw A1 n1 (C.ix.map (Value.int .u8)) from i4.out.ix)
    have nil1 := hide (show A1 = none → n1 = 0 ∧ c1 = 0 from o1.out.1)
    replace lk := hide lk
    go_upto_region 22 with (at_builtin; refine ap0 elU8 r1.out (.tmp 104) (.tmp 106) rfl rfl rfl rfl nil1.out (oneCells .u8 _) (by simp [maxLen]; omega) (by omega) ?_; intro A10 c10 w10 o10 h10; obtain ⟨ga, rfl, hga, hga2⟩ := o10.form (by have := zn.out; omega); have kw1 := kw.out.below h10; obtain ⟨yw1, zw1⟩ := ro_cf kw1 1 _ q1.out)
    have lw' := lw.out
    have lk' := lk.out
    have o11 := o10.setLow 1 (show u_kz.heap.size < uw.heap.size by omega) (.slice (some ⟨ga, 0, none⟩) n1 c10)
    have kw2 := ro_set kw1 1 (.slice (some ⟨ga, 0, none⟩) n1 c10)
    have cxw := hide (show bs.setIfInBounds 1 (.slice (some ⟨ga, 0, none⟩) n1 c10) = blA ⟨⟨A0, n1, c0⟩, ⟨some ⟨ga, 0, none⟩, n1, c10⟩, ⟨A2, n2, c2⟩, ⟨A3, n3, c3⟩, ⟨A4, n4, c4⟩, ⟨A5, n5, c5⟩, ⟨A6, n6, c6⟩⟩ by rw [hbs.out]; rfl)
    rw [cxw.out] at kw2
    have k1 := ro_set_ne (kk.out.below h10) (g' := u_kz.heap.size) (by omega) 1 (.slice (some ⟨ga, 0, none⟩) n1 c10)
    have hW := hide (bl_set (o := 1) (bel_next hw1.out h10) (Nat.le_refl _) (.slice (some ⟨ga, 0, none⟩) n1 c10))
    clear yw1 zw1 y1 kw1 o10 r1 i4 kk kw cxw
    replace hga := (show u_kz.heap.size < ga by omega)
    replace lw' := hide lw'
    replace lk' := hide lk'
    generalize w10.setCell ⟨u_kz.heap.size, 1, none⟩ (.slice (some ⟨ga, 0, none⟩) n1 c10) = W1 at *
    obtain ⟨ym, _⟩ := ro_cf kw2 1 (.slice (some ⟨ga, 0, none⟩) n1 c10) rfl
    obtain ⟨y2, _⟩ := ro_cf k1 2 _ q2.out
    have zp : 0 < n1 := by have := zn.out; omega
    have zpi : (0 : Int) < (n1 : Int) := by omega
    obtain ⟨ad, ea, xc⟩ := o11.rd.int zp
    cases ea
    simp only [addr_flat, Nat.zero_add] at xc
    have xf := o11.frozen 0
    have iw2 : IntKind.u8.wrap (n2 : Int) = (n2 : Int) := by have := n2b.out; rw [IntKind.wrap_u8]; omega
    have o12 := o11.set 0 (.int .u8 (n2 : Int))
    rw [map_set] at o12
    have kw3 := ro_set_ne kw2 (g' := ga) (by omega) 0 (.int .u8 (n2 : Int))
    have h1 := bl_set (o := 0) hW.out (show u_kz.heap.size ≤ ga by omega) (.int .u8 (n2 : Int))
    have oc := o12.cap
    have om := o12.capMax
    simp [maxLen] at om
    replace o12 := hide o12
    replace kw3 := hide kw3
    clear kw2 k1 hW o11 lw lw' lk lk' hga hga2
    go_upto_region 23 with fail
    clear ym y2 xc xf
    replace k := hide (k.out.below h1)
    replace i3 := hide (i3.out.below h1)
    replace kz := hide (kz.out.below h1)
    replace HT := hide (HT.out.below h1)
    replace hb := hide (bel_next hb.out h1)
    clear h1
    generalize W1.setCell ⟨ga, 0, none⟩ (.int .u8 (n2 : Int)) = W2 at *
    generalize u_kz.heap.size = gw at *
    have rw12 := hide o12.out.rd
    clear o12
    have Gkw := gr_blk ⟨⟨A0, n1, c0⟩, ⟨some ⟨ga, 0, none⟩, n1, c10⟩, ⟨A2, n2, c2⟩, ⟨A3, n3, c3⟩, ⟨A4, n4, c4⟩, ⟨A5, n5, c5⟩, ⟨A6, n6, c6⟩⟩
    have CW := hide (fun W (i3 : IsBk W ⟨⟨A0, n1, c0⟩, ⟨A1, n1, c1⟩, ⟨A2, n2, c2⟩, ⟨A3, n3, c3⟩, ⟨A4, n4, c4⟩, ⟨A5, n5, c5⟩, ⟨A6, n6, c6⟩⟩ C) (r : Rd W (some ⟨ga, 0, none⟩) n1 ((C.ix.set 0 (n2 : Int)).map (Value.int .u8))) => VB.out ⟨⟨A0, n1, c0⟩, ⟨some ⟨ga, 0, none⟩, n1, c10⟩, ⟨A2, n2, c2⟩, ⟨A3, n3, c3⟩, ⟨A4, n4, c4⟩, ⟨A5, n5, c5⟩, ⟨A6, n6, c6⟩⟩ ⟨C.ti, C.ix.set 0 (n2 : Int), C.ty, C.ch, C.lp, C.sd, C.ut⟩ ⟨s0, s1, s2, s3, s4, s5, s6⟩ W (⟨i3.oti, (⟨fun h => (by cases h), oc, by dsimp only; omega⟩ : (Sl.mk (some ⟨ga, 0, none⟩) n1 c10).ok), i3.oty, i3.och, i3.olp, i3.osd, i3.out_, i3.ti, r, i3.ty, i3.ch, i3.lp, i3.sd, i3.ut, ⟨ob.out.ti, ob.out.ix.set 0 (by omega) (by have := n2b.out; omega), ob.out.ty, ob.out.ch, ob.out.lp⟩⟩ : IsBk W ⟨⟨A0, n1, c0⟩, ⟨some ⟨ga, 0, none⟩, n1, c10⟩, ⟨A2, n2, c2⟩, ⟨A3, n3, c3⟩, ⟨A4, n4, c4⟩, ⟨A5, n5, c5⟩, ⟨A6, n6, c6⟩⟩ ⟨C.ti, C.ix.set 0 (n2 : Int), C.ty, C.ch, C.lp, C.sd, C.ut⟩))
    rw [show vB ⟨C.ti, C.ix.set 0 (n2 : Int), C.ty, C.ch, C.lp, C.sd, C.ut⟩ fr K = 8 from OK.out.badIndex (by simp) (v := (n2 : Int)) (List.mem_of_getElem? (i := 0) (by rw [List.getElem?_set_self (by rw [l1.out]; exact zp)])) (by rw [l2.out]; exact Int.le_refl _)] at CW
    go_wp2_with (first | (refine load_row_g (by rfl) 28 _ rfl _ rfl _ _ _ kz.out Tryz.underlying28 rfl Gkz.1 ?_) | (refine load_row_g (by rfl) 28 _ rfl _ rfl _ _ _ kw3.out Tryz.underlying28 rfl Gkw.1 ?_))
    refine (CZ.out _ i3.out).mono ?_
    rintro e wy ⟨rfl, h1⟩
    replace k := hide (k.out.below h1)
    replace i3 := hide (i3.out.below h1)
    replace kz := hide (kz.out.below h1)
    replace kw3 := hide (kw3.out.below h1)
    replace rw12 := hide (rw12.out.below h1)
    replace HT := hide (HT.out.below h1)
    replace hb := hide (bel_next hb.out h1)
    clear h1
    go_wp2_with (first | (refine load_row_g (by rfl) 28 _ rfl _ rfl _ _ _ kz.out Tryz.underlying28 rfl Gkz.1 ?_) | (refine load_row_g (by rfl) 28 _ rfl _ rfl _ _ _ kw3.out Tryz.underlying28 rfl Gkw.1 ?_))
    refine (CW.out _ i3.out rw12.out).mono ?_
    rintro e wx ⟨rfl, h1⟩
    replace k := hide (k.out.below h1)
    replace i3 := hide (i3.out.below h1)
    replace kz := hide (kz.out.below h1)
    replace kw3 := hide (kw3.out.below h1)
    replace rw12 := hide (rw12.out.below h1)
    replace HT := hide (HT.out.below h1)
    replace hb := hide (bel_next hb.out h1)
    clear h1
    go_wp2
    go_ret
    exact ⟨rfl, hb.out⟩
end l20_
end Go.Proofs.YtbehflfpdkedgaaGreatDoor
