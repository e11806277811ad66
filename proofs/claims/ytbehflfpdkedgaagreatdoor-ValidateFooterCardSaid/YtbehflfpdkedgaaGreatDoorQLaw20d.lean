/-
  Texts of mine in one file: Law20d. Their conditions stand in the theorems.
-/
import Derived.Test.YtbehflfpdkedgaaGreatDoorQ33
import Derived.Deep.RegionHeld3
import Derived.Deep.DeepCutAuto
namespace Go.Proofs.YtbehflfpdkedgaaGreatDoor
set_option linter.unusedVariables false
set_option linter.unusedSimpArgs false
set_option maxRecDepth 100000
set_option maxHeartbeats 16000000
open Go.ChangeShapes Go.WideShapes Go.ChangeAt Go.RowKit
namespace l20_
theorem footer (s : ByteArray) (i : Int) (w : World) (hT : Tb w) (hs0 : s.size ≤ maxLen) (hi : (Lit.int .u8 i).wf = true) :
 Calls Tryz.prog 7 #[.string s, .int .u8 i] w fun e w' => e = .returned (.bool true) ∧ Below w.heap.size w w' := by
 have m1 := mkT1
 have hi0 := wf_u8 hi
 obtain ⟨q_, hq⟩ : ∃ q : Int, i.tmod 3 = q := ⟨_, rfl⟩
 have qa : 0 ≤ q_ := by rw [← hq]; exact Int.tmod_nonneg _ hi0.1
 have qb : q_ < 3 := by rw [← hq]; exact Int.tmod_lt_of_pos _ (by decide)
 have qw2 : IntKind.i64.wrap q_ = q_ := by rw [IntKind.wrap_i64]; omega
 obtain ⟨V, hV⟩ : ∃ V, V = 2 + q_ := ⟨_, rfl⟩
 have qw : IntKind.i64.wrap (2 + q_) = V := by rw [IntKind.wrap_i64]; omega
 have Va : 2 ≤ V := by omega
 have Vb : V ≤ 4 := by omega
 clear hi hi0
 have hz := byt_nil s
 have sl : s.toList.length = s.size := by rw [ByteArray.toList_eq]; exact Array.length_toList
 replace sl := hide sl
 obtain ⟨p, hp⟩ : ∃ p, p = vF (byt s) V zS := ⟨_, rfl⟩
 have hb := hide (Below.refl w.heap.size w)
 replace hT := hide hT
 have HT := hT
 clear hT
 clear hV
 replace qa := hide qa
 replace qb := hide qb
 replace Va := hide Va
 replace Vb := hide Vb
 replace hz := hide hz
 replace hp := hide hp
 go_enter Tryz.func7, Tryz.ntmps7
 go_wp2_with fail
 refine (awake _ HT.out).mono ?_
 rintro e w1 ⟨rfl, h1⟩
 replace HT := hide (HT.out.below h1)
 replace hb := hide (bel_next hb.out h1)
 clear h1
 by_cases big : (600 : Int) < (s.size : Int)
 ·have db : decide ((600 : Int) < (s.size : Int)) = true := decide_eq_true big
  have db2 : decide (600 < s.size) = true := decide_eq_true (by omega)
  replace big := hide big
  go_wp2_with fail
  refine (awake _ HT.out).mono ?_
  rintro e wn ⟨rfl, h1⟩
  replace HT := hide (HT.out.below h1)
  replace hb := hide (bel_next hb.out h1)
  clear h1
  go_wp2
  go_ret
  exact ⟨rfl, hb.out⟩
 ·have db : decide ((600 : Int) < (s.size : Int)) = false := decide_eq_false big
  have db2 : decide (600 < s.size) = false := decide_eq_false (by omega)
  have sz := hide (show s.size ≤ 1000000 by omega)
  replace big := hide big
  go_upto_region 4 with fail
  obtain ⟨S0, k1, i0, s0⟩ := aMk0 w1
  replace k1 := hide k1
  replace i0 := hide i0
  replace s0 := hide s0
  have h1 := bl_alloc (bl_alloc (bl_new w1 (.cells #[.int .i32 0, .bool false, .int .u8 0] 57)) (.cells #[.int .u8 0] 5)) (.cells #[.slice none 0 0, .slice none 0 0, .slice (some ⟨w1.heap.size, 0, none⟩) 1 1, .slice (some ⟨w1.heap.size + 1, 0, none⟩) 1 1, .slice none 0 0, .slice none 0 0, .slice none 0 0] 28)
  replace hb := hide (bel_next hb.out h1)
  replace HT := hide (HT.out.below h1)
  clear h1
  generalize (((w1.alloc (.cells #[.int .i32 0, .bool false, .int .u8 0] 57)).alloc (.cells #[.int .u8 0] 5)).alloc (.cells #[.slice none 0 0, .slice none 0 0, .slice (some ⟨w1.heap.size, 0, none⟩) 1 1, .slice (some ⟨w1.heap.size + 1, 0, none⟩) 1 1, .slice none 0 0, .slice none 0 0, .slice none 0 0] 28)) = u1 at *
  generalize w1.heap.size + 1 + 1 = g1 at *
  have G3 := gr_file V S0 S0 s
  have hS0 : Gr Tryz.prog 28 7 #[.slice S0.ti.A S0.ti.n S0.ti.c, .slice S0.ix.A S0.ix.n S0.ix.c, .slice S0.ty.A S0.ty.n S0.ty.c, .slice S0.ch.A S0.ch.n S0.ch.c, .slice S0.lp.A S0.lp.n S0.lp.c, .slice S0.sd.A S0.sd.n S0.sd.c, .slice S0.ut.A S0.ut.n S0.ut.c] := gr_blk S0
  go_upto_region 5 with (refine load_row_g (by rfl) 28 _ rfl _ rfl _ _ _ k1.out Tryz.underlying28 rfl hS0.1 ?_)
  have k3 := hide (show Ro (u1.alloc (.cells #[.int .i64 V, .slice S0.ti.A S0.ti.n S0.ti.c, .slice S0.ix.A S0.ix.n S0.ix.c, .slice S0.ty.A S0.ty.n S0.ty.c, .slice S0.ch.A S0.ch.n S0.ch.c, .slice S0.lp.A S0.lp.n S0.lp.c, .slice S0.sd.A S0.sd.n S0.sd.c, .slice S0.ut.A S0.ut.n S0.ut.c, .slice S0.ti.A S0.ti.n S0.ti.c, .slice S0.ix.A S0.ix.n S0.ix.c, .slice S0.ty.A S0.ty.n S0.ty.c, .slice S0.ch.A S0.ch.n S0.ch.c, .slice S0.lp.A S0.lp.n S0.lp.c, .slice S0.sd.A S0.sd.n S0.sd.c, .slice S0.ut.A S0.ut.n S0.ut.c, .string s] 30)) u1.heap.size (flA V S0 S0 s) 30 from Ro.new u1 (flA V S0 S0 s) 30)
  have h1 := bl_new u1 (.cells #[.int .i64 V, .slice S0.ti.A S0.ti.n S0.ti.c, .slice S0.ix.A S0.ix.n S0.ix.c, .slice S0.ty.A S0.ty.n S0.ty.c, .slice S0.ch.A S0.ch.n S0.ch.c, .slice S0.lp.A S0.lp.n S0.lp.c, .slice S0.sd.A S0.sd.n S0.sd.c, .slice S0.ut.A S0.ut.n S0.ut.c, .slice S0.ti.A S0.ti.n S0.ti.c, .slice S0.ix.A S0.ix.n S0.ix.c, .slice S0.ty.A S0.ty.n S0.ty.c, .slice S0.ch.A S0.ch.n S0.ch.c, .slice S0.lp.A S0.lp.n S0.lp.c, .slice S0.sd.A S0.sd.n S0.sd.c, .slice S0.ut.A S0.ut.n S0.ut.c, .string s] 30)
  replace k1 := hide (k1.out.below h1)
  replace i0 := hide (i0.out.below h1)
  replace HT := hide (HT.out.below h1)
  replace hb := hide (bel_next hb.out h1)
  clear h1
  generalize u1.alloc (.cells #[.int .i64 V, .slice S0.ti.A S0.ti.n S0.ti.c, .slice S0.ix.A S0.ix.n S0.ix.c, .slice S0.ty.A S0.ty.n S0.ty.c, .slice S0.ch.A S0.ch.n S0.ch.c, .slice S0.lp.A S0.lp.n S0.lp.c, .slice S0.sd.A S0.sd.n S0.sd.c, .slice S0.ut.A S0.ut.n S0.ut.c, .slice S0.ti.A S0.ti.n S0.ti.c, .slice S0.ix.A S0.ix.n S0.ix.c, .slice S0.ty.A S0.ty.n S0.ty.c, .slice S0.ch.A S0.ch.n S0.ch.c, .slice S0.lp.A S0.lp.n S0.lp.c, .slice S0.sd.A S0.sd.n S0.sd.c, .slice S0.ut.A S0.ut.n S0.ut.c, .string s] 30) = u3 at *
  generalize u1.heap.size = g3 at *
  have bok := hide (fun four => (vB_iff zS four 8).1 (zS_v four 8))
  have FO := hide (fun W hT h => vd_.Footer V S0 S0 s zS (decide (V = 4)) W hT h s0.out sz.out (fun _ => bok.out _))
  rw [← hp.out] at FO
  have FE := hide (fun W hT h => vd_.Footer V S0 S0 ⟨#[]⟩ zS (decide (V = 4)) W hT h s0.out (by decide) (fun _ => bok.out _))
  rw [show vF (byt ⟨#[]⟩) V zS = (0, 0) from rfl] at FE
  have XE := hide (fun W hT h => vd_.File V S0 S0 ⟨#[]⟩ zS zS W hT h h s0.out s0.out (by decide))
  rw [vFile_2 Va.out Vb.out (zS_v _ _) (zS_v _ _), show vF (byt ⟨#[]⟩) V zS = (0, 0) from rfl] at XE
  have XF := hide (fun W hT h => vd_.File V S0 S0 s zS zS W hT h h s0.out s0.out sz.out)
  rw [vFile_2 Va.out Vb.out (zS_v _ _) (zS_v _ _), ← hp.out] at XF
  obtain ⟨c3, hc3⟩ : ∃ c, c = flA V S0 S0 s := ⟨_, rfl⟩
  obtain ⟨c9, hc9⟩ : ∃ c, c = flA V S0 S0 ⟨#[]⟩ := ⟨_, rfl⟩
  have G9 := gr_file V S0 S0 ⟨#[]⟩
  have e9 := hide (show c3.setIfInBounds 15 (.string ⟨#[]⟩) = c9 by rw [hc3, hc9]; rfl)
  have q0 := hide (show c3[0]? = some (.int .i64 V) by rw [hc3]; rfl)
  have q15 := hide (show c3[15]? = some (.string s) by rw [hc3]; rfl)
  rw [← hc3] at FO XF G3 k3
  rw [← hc9] at FE XE G9
  clear hc3 hc9 bok
  obtain ⟨p1, p2⟩ := p
  dsimp only at FO XF FE XE
  go_wp2_with (refine load_row_g (by rfl) 30 _ rfl _ rfl _ _ _ k3.out Tryz.underlying30 rfl G3.1 ?_)
  refine (FO.out _ HT.out i0.out).mono ?_
  rintro e u5 ⟨rfl, h1⟩
  replace k1 := hide (k1.out.below h1)
  replace i0 := hide (i0.out.below h1)
  replace k3 := hide (k3.out.below h1)
  replace HT := hide (HT.out.below h1)
  replace hb := hide (bel_next hb.out h1)
  clear h1
  clear FO
  go_upto_region 7 with (first | (refine wpList_store_row rfl 30 _ _ rfl _ _ rfl rfl _ _ (heap_alloc_last _ _) G3.1 (by rw [G3.2.1]; rfl) G3.2.2 ?_; rw [World.setRow_alloc_new]) | (refine load_row_g (by rfl) 30 _ rfl _ rfl _ _ _ k3.out Tryz.underlying30 rfl G3.1 ?_))
  have ka := hide (Ro.new u5 c3 30)
  obtain ⟨y15, z15⟩ := ro_cf ka.out 15 _ q15.out
  have h1 := bl_new u5 (.cells (c3.setIfInBounds 15 (.string ⟨#[]⟩)) 30)
  have k9 := Ro.new u5 (c3.setIfInBounds 15 (.string ⟨#[]⟩)) 30
  clear ka
  go_upto_region 8 with fail
  clear y15 z15
  rw [e9.out] at k9 h1
  replace k9 := hide k9
  rw [e9.out]
  replace k1 := hide (k1.out.below h1)
  replace i0 := hide (i0.out.below h1)
  replace k3 := hide (k3.out.below h1)
  replace HT := hide (HT.out.below h1)
  replace hb := hide (bel_next hb.out h1)
  clear h1
  generalize u5.alloc (.cells c9 30) = u7 at *
  generalize u5.heap.size = g9 at *
  go_wp2_with (refine load_row_g (by rfl) 30 _ rfl _ rfl _ _ _ k9.out Tryz.underlying30 rfl G9.1 ?_)
  refine (FE.out _ HT.out i0.out).mono ?_
  rintro e u8 ⟨rfl, h1⟩
  replace k1 := hide (k1.out.below h1)
  replace i0 := hide (i0.out.below h1)
  replace k3 := hide (k3.out.below h1)
  replace k9 := hide (k9.out.below h1)
  replace HT := hide (HT.out.below h1)
  replace hb := hide (bel_next hb.out h1)
  clear h1
  go_wp2_with (refine load_row_g (by rfl) 30 _ rfl _ rfl _ _ _ k9.out Tryz.underlying30 rfl G9.1 ?_)
  refine (XE.out _ HT.out i0.out).mono ?_
  rintro e u9 ⟨rfl, h1⟩
  replace k1 := hide (k1.out.below h1)
  replace i0 := hide (i0.out.below h1)
  replace k3 := hide (k3.out.below h1)
  replace k9 := hide (k9.out.below h1)
  replace HT := hide (HT.out.below h1)
  replace hb := hide (bel_next hb.out h1)
  clear h1
  clear FE XE k9 G9 e9
  have P := hide (fun w => po_.Parse s w sz.out)
  have hpp := hp.out
  rcases hr : ptParse (byt s) with a | r
  ·rw [hr] at P
   simp only [ptRes, vrule_c] at P
   have G2 := gr_rule ⟨#[]⟩ 0 false ⟨#[]⟩ 0 rd0 rd0
   generalize crule ⟨#[]⟩ 0 false ⟨#[]⟩ 0 rd0 rd0 = rs at *
   have hsh := hide (fun (hne : byt s ≠ []) => show (p1, p2) = (14, (a : Int)) from by
    rw [hpp]
    unfold vF
    rw [if_neg hne, hr]
   )
   have hse := hide (fun (he : byt s = []) => show (p1, p2) = (0, 0) from by rw [hpp]; unfold vF; rw [if_pos he])
   clear hr hpp hp
   go_wp2_with fail
   refine (P.out _).mono ?_
   rintro e ua ⟨rfl, h1⟩
   replace k1 := hide (k1.out.below h1)
   replace i0 := hide (i0.out.below h1)
   replace k3 := hide (k3.out.below h1)
   replace HT := hide (HT.out.below h1)
   replace hb := hide (bel_next hb.out h1)
   clear h1
   clear P
   have h1 := bl_new ua (.cells rs 51)
   have kr := hide (Ro.new ua rs 51)
   go_upto_region 12 with (first | (refine wpList_store_row rfl 51 _ _ rfl _ _ rfl rfl _ _ (heap_alloc_last _ _) G2.1 (by rw [G2.2.1]; rfl) G2.2.2 ?_; rw [World.setRow_alloc_new]))
   replace k1 := hide (k1.out.below h1)
   replace i0 := hide (i0.out.below h1)
   replace k3 := hide (k3.out.below h1)
   replace HT := hide (HT.out.below h1)
   replace hb := hide (bel_next hb.out h1)
   clear h1
   generalize ua.alloc (.cells rs 51) = ub at *
   generalize ua.heap.size = gr at *
   by_cases he : byt s = []
   ·obtain ⟨rfl, rfl⟩ := Prod.mk.inj (hse.out he)
    have hz2 := hz.out
    rw [decide_eq_true he] at hz2
    replace he := hide he
    go_wp2
    go_ret
    exact ⟨rfl, hb.out⟩
   have hz2 := hz.out
   rw [decide_eq_false he] at hz2
   obtain ⟨rfl, rfl⟩ := Prod.mk.inj (hsh.out he)
   replace he := hide he
   go_wp2
   go_ret
   exact ⟨rfl, hb.out⟩
  ·rw [hr] at P
   simp only [ptRes, vrule_c] at P
   have G2 := gr_rule (mkS r.1) r.2.1 r.2.2.1 (mkS r.2.2.2.1) r.2.2.2.2.1 r.2.2.2.2.2.1 r.2.2.2.2.2.2
   have hok := ptParse_ok hr
   have E := hide (fun w => tf_.Extended (mkS r.1) r.2.1 r.2.2.1 (mkS r.2.2.2.1) r.2.2.2.2.1 r.2.2.2.2.2.1 r.2.2.2.2.2.2 w (by rw [byt_mk, byt_mk]; exact hok))
   rw [vrule_c] at E
   obtain ⟨ex, hex⟩ : ∃ ex, ex = exR r := ⟨_, rfl⟩
   have hex2 := hex
   unfold exR at hex2
   rw [← hex2] at E
   clear hex2 hok
   generalize crule (mkS r.1) r.2.1 r.2.2.1 (mkS r.2.2.2.1) r.2.2.2.2.1 r.2.2.2.2.2.1 r.2.2.2.2.2.2 = rs at *
   have hsh := hide (fun (hne : byt s ≠ []) => show (p1, p2) = ((if V = 2 ∧ ex = true then 16 else 0), 0) from by
    rw [hpp]
    unfold vF
    rw [if_neg hne, hr]
    dsimp only
    unfold vFr
    rw [← hex]
    by_cases h : V = 2 ∧ ex = true
    ·rw [if_pos h, if_pos h]
    ·rw [if_neg h, if_neg h, if_pos (by rfl)]
   )
   have hse := hide (fun (he : byt s = []) => show (p1, p2) = (0, 0) from by rw [hpp]; unfold vF; rw [if_pos he])
   clear hr hpp hp
   replace hex := hide hex
   go_wp2_with fail
   refine (P.out _).mono ?_
   rintro e ua ⟨rfl, h1⟩
   replace k1 := hide (k1.out.below h1)
   replace i0 := hide (i0.out.below h1)
   replace k3 := hide (k3.out.below h1)
   replace HT := hide (HT.out.below h1)
   replace hb := hide (bel_next hb.out h1)
   clear h1
   clear P
   have h1 := bl_new ua (.cells rs 51)
   have kr := hide (Ro.new ua rs 51)
   go_upto_region 12 with (first | (refine wpList_store_row rfl 51 _ _ rfl _ _ rfl rfl _ _ (heap_alloc_last _ _) G2.1 (by rw [G2.2.1]; rfl) G2.2.2 ?_; rw [World.setRow_alloc_new]))
   replace k1 := hide (k1.out.below h1)
   replace i0 := hide (i0.out.below h1)
   replace k3 := hide (k3.out.below h1)
   replace HT := hide (HT.out.below h1)
   replace hb := hide (bel_next hb.out h1)
   clear h1
   generalize ua.alloc (.cells rs 51) = ub at *
   generalize ua.heap.size = gr at *
   by_cases he : byt s = []
   ·obtain ⟨rfl, rfl⟩ := Prod.mk.inj (hse.out he)
    have hz2 := hz.out
    rw [decide_eq_true he] at hz2
    replace he := hide he
    go_wp2
    go_ret
    exact ⟨rfl, hb.out⟩
   have hz2 := hz.out
   rw [decide_eq_false he] at hz2
   obtain ⟨ep1, rfl⟩ := Prod.mk.inj (hsh.out he)
   replace he := hide he
   go_upto_region 16 with fail
   obtain ⟨y0, _⟩ := ro_cf k3.out 0 _ q0.out
   by_cases v2 : V = 2
   ·have dv : (V == 2) = true := by simpa using v2
    have dv' : decide (V = 2) = true := decide_eq_true v2
    have ep2 : p1 = if ex = true then 16 else 0 := by rw [ep1]; simp [v2]
    clear ep1
    replace v2 := hide v2
    cases ex
    ·obtain rfl : p1 = 0 := ep2
     go_wp2_with (refine load_row_g (by rfl) 51 _ rfl _ rfl _ _ _ kr.out Tryz.underlying51 rfl G2.1 ?_)
     refine (E.out _).mono ?_
     rintro e uc ⟨rfl, h1⟩
     replace k1 := hide (k1.out.below h1)
     replace i0 := hide (i0.out.below h1)
     replace k3 := hide (k3.out.below h1)
     replace kr := hide (kr.out.below h1)
     replace HT := hide (HT.out.below h1)
     replace hb := hide (bel_next hb.out h1)
     clear h1
     go_wp2_with (refine load_row_g (by rfl) 30 _ rfl _ rfl _ _ _ k3.out Tryz.underlying30 rfl G3.1 ?_)
     refine (XF.out _ HT.out i0.out).mono ?_
     rintro e ud ⟨rfl, h1⟩
     replace k1 := hide (k1.out.below h1)
     replace i0 := hide (i0.out.below h1)
     replace k3 := hide (k3.out.below h1)
     replace kr := hide (kr.out.below h1)
     replace HT := hide (HT.out.below h1)
     replace hb := hide (bel_next hb.out h1)
     clear h1
     go_wp2
     go_ret
     exact ⟨rfl, hb.out⟩
    ·obtain rfl : p1 = 16 := ep2
     go_wp2_with (refine load_row_g (by rfl) 51 _ rfl _ rfl _ _ _ kr.out Tryz.underlying51 rfl G2.1 ?_)
     refine (E.out _).mono ?_
     rintro e uc ⟨rfl, h1⟩
     replace k1 := hide (k1.out.below h1)
     replace i0 := hide (i0.out.below h1)
     replace k3 := hide (k3.out.below h1)
     replace kr := hide (kr.out.below h1)
     replace HT := hide (HT.out.below h1)
     replace hb := hide (bel_next hb.out h1)
     clear h1
     go_wp2_with (refine load_row_g (by rfl) 30 _ rfl _ rfl _ _ _ k3.out Tryz.underlying30 rfl G3.1 ?_)
     refine (XF.out _ HT.out i0.out).mono ?_
     rintro e ud ⟨rfl, h1⟩
     replace k1 := hide (k1.out.below h1)
     replace i0 := hide (i0.out.below h1)
     replace k3 := hide (k3.out.below h1)
     replace kr := hide (kr.out.below h1)
     replace HT := hide (HT.out.below h1)
     replace hb := hide (bel_next hb.out h1)
     clear h1
     go_wp2
     go_ret
     exact ⟨rfl, hb.out⟩
   ·have dv : (V == 2) = false := by simpa using v2
    have dv' : decide (V = 2) = false := decide_eq_false v2
    obtain rfl : p1 = 0 := by rw [ep1]; simp [v2]
    clear ep1
    replace v2 := hide v2
    go_upto_region 17 with fail
    go_wp2_with (refine load_row_g (by rfl) 30 _ rfl _ rfl _ _ _ k3.out Tryz.underlying30 rfl G3.1 ?_)
    refine (XF.out _ HT.out i0.out).mono ?_
    rintro e ud ⟨rfl, h1⟩
    replace k1 := hide (k1.out.below h1)
    replace i0 := hide (i0.out.below h1)
    replace k3 := hide (k3.out.below h1)
    replace kr := hide (kr.out.below h1)
    replace HT := hide (HT.out.below h1)
    replace hb := hide (bel_next hb.out h1)
    clear h1
    go_wp2
    go_ret
    exact ⟨rfl, hb.out⟩
end l20_
end Go.Proofs.YtbehflfpdkedgaaGreatDoor
