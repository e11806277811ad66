/-
  Texts of mine in one file: Law20b. Their conditions stand in the theorems.
-/
import Derived.Test.YtbehflfpdkedgaaGreatDoorQ33
import Derived.Test.YtbehflfpdkedgaaGreatDoorQ34
import Derived.Deep.RegionHeld3
import Derived.Deep.DeepCutAuto
namespace Go.Proofs.YtbehflfpdkedgaaGreatDoor
set_option linter.unusedVariables false
set_option linter.unusedSimpArgs false
set_option maxRecDepth 100000
set_option maxHeartbeats 16000000
open Go.ChangeShapes Go.WideShapes Go.ChangeAt Go.RowKit
namespace l20_
theorem versions (v : Int) (S : BkS) (A : Bk) (S' : BkS) (B : Bk) (f : ByteArray) (T : BkS) (C : Bk) (w : World) (hT : Tb w) (hv : (Lit.int .i64 v).wf = true) (h : IsBk w S A) (h' : IsBk w S' B) (hf0 : f.size ≤ maxLen) (h2 : IsBk w T C) :
 Calls Tryz.prog 5 #[.agg (flA v S S' f), .agg (blA T)] w fun e w' => e = .returned (.bool true) ∧ Below w.heap.size w w' := by
 have hvb := wf_i64 hv
 clear hv
 have G := gr_file v S S' f
 obtain ⟨cs, hcs⟩ : ∃ cs, cs = flA v S S' f := ⟨_, rfl⟩
 have q0 := hide (show cs[0]? = some (.int .i64 v) by rw [hcs]; rfl)
 have q1 := hide (show cs[1]? = some (.slice S.ti.A S.ti.n S.ti.c) by rw [hcs]; rfl)
 have q2 := hide (show cs[2]? = some (.slice S.ix.A S.ix.n S.ix.c) by rw [hcs]; rfl)
 have q3 := hide (show cs[3]? = some (.slice S.ty.A S.ty.n S.ty.c) by rw [hcs]; rfl)
 have q4 := hide (show cs[4]? = some (.slice S.ch.A S.ch.n S.ch.c) by rw [hcs]; rfl)
 have q5 := hide (show cs[5]? = some (.slice S.lp.A S.lp.n S.lp.c) by rw [hcs]; rfl)
 have q6 := hide (show cs[6]? = some (.slice S.sd.A S.sd.n S.sd.c) by rw [hcs]; rfl)
 have q7 := hide (show cs[7]? = some (.slice S.ut.A S.ut.n S.ut.c) by rw [hcs]; rfl)
 have q8 := hide (show cs[8]? = some (.slice S'.ti.A S'.ti.n S'.ti.c) by rw [hcs]; rfl)
 have q9 := hide (show cs[9]? = some (.slice S'.ix.A S'.ix.n S'.ix.c) by rw [hcs]; rfl)
 have q10 := hide (show cs[10]? = some (.slice S'.ty.A S'.ty.n S'.ty.c) by rw [hcs]; rfl)
 have q11 := hide (show cs[11]? = some (.slice S'.ch.A S'.ch.n S'.ch.c) by rw [hcs]; rfl)
 have q12 := hide (show cs[12]? = some (.slice S'.lp.A S'.lp.n S'.lp.c) by rw [hcs]; rfl)
 have q13 := hide (show cs[13]? = some (.slice S'.sd.A S'.sd.n S'.sd.c) by rw [hcs]; rfl)
 have q14 := hide (show cs[14]? = some (.slice S'.ut.A S'.ut.n S'.ut.c) by rw [hcs]; rfl)
 have q15 := hide (show cs[15]? = some (.string f) by rw [hcs]; rfl)
 have GB : Gr Tryz.prog 28 7 (blA T) := gr_blk T
 obtain ⟨bs, hbs⟩ : ∃ c, c = blA T := ⟨_, rfl⟩
 obtain ⟨X, hX⟩ : ∃ X, X = vFile v A B (byt f) := ⟨_, rfl⟩
 obtain ⟨F, hF⟩ : ∃ F, F = (fewB A && fewB B && decide (f.size ≤ 600)) := ⟨_, rfl⟩
 obtain ⟨F2, hF2⟩ : ∃ F, F = fewB C := ⟨_, rfl⟩
 have FW := hide (fun W h h' => r20_.Few v S S' f A B W h h')
 rw [← hF] at FW
 have FW2 := hide (fun W h => show Calls Tryz.prog 10 #[.agg (blA T)] W _ from r19_.Few T C W h)
 rw [← hF2] at FW2
 have FI := hide (fun (s1 : S.small) (s2 : S'.small) (hf : f.size ≤ 1000000) W hT h h' => vd_.File v S S' f A B W hT h h' s1 s2 hf)
 rw [← hX] at FI
 have FG := hide (fun (x0 : X = 0) (v0 : 2 ≤ v) (v1 : v < 4) (s1 : S.small) (s2 : S'.small) (hf : f.size ≤ 1000000) W hT h h' => show Calls Tryz.prog 14 #[.agg (flA (v + 1) S S' f)] W fun e w' => e = .returned (.int .i64 0) ∧ Below W.heap.size W w' from by
  have := vd_.File (v + 1) S S' f A B W hT h h' s1 s2 hf
  rw [vFile_up v0 v1 (hX.symm.trans x0)] at this
  exact this)
 have P3 := hide (fun (s : T.small) W h => show Calls Tryz.prog 12 #[.agg (blA T), .int .i64 3, .int .i64 8] W fun e w' => e = .returned (.int .i64 (vB C false 8)) ∧ Below W.heap.size W w' from vd_.Block T C 3 false 8 8 W rfl (.inr rfl) (by decide) (by decide) rfl h s)
 have P1 := hide (fun (s : T.small) W h => show Calls Tryz.prog 12 #[.agg (blA T), .int .i64 1, .int .i64 8] W fun e w' => e = .returned (.int .i64 (vB C false 8)) ∧ Below W.heap.size W w' from vd_.Block T C 1 false 8 8 W rfl (.inr rfl) (by decide) (by decide) rfl h s)
 have P4 := hide (fun (s : T.small) W h => show Calls Tryz.prog 12 #[.agg (blA T), .int .i64 4, .int .i64 8] W fun e w' => e = .returned (.int .i64 (vB C true 8)) ∧ Below W.heap.size W w' from vd_.Block T C 4 true 8 8 W rfl (.inr rfl) (by decide) (by decide) rfl h s)
 have P5 := hide (fun (s : T.small) W h => show Calls Tryz.prog 12 #[.agg (blA T), .int .i64 4, .int .i64 4] W fun e w' => e = .returned (.int .i64 (vB C true 4)) ∧ Below W.heap.size W w' from vd_.Block T C 4 true 4 4 W rfl (.inl rfl) (by decide) (by decide) rfl h s)
 have hle := hide (fun (h : vB C false 8 = 0) => show vB C true 8 = 0 from (vB_iff _ _ _).2 (((vB_iff _ _ _).1 h).le4 true))
 have hwd := hide (fun (h : vB C true 4 = 0) => show vB C true 8 = 0 from (vB_iff _ _ _).2 (((vB_iff _ _ _).1 h).wide h2.ok))
 generalize vB C false 8 = e3 at *
 generalize vB C true 8 = e8 at *
 generalize vB C true 4 = e4 at *
 obtain ⟨cg, hcg⟩ : ∃ c, c = flA (v + 1) S S' f := ⟨_, rfl⟩
 have GG := gr_file (v + 1) S S' f
 have eg := hide (show cs.setIfInBounds 0 (.int .i64 (v + 1)) = cg by rw [hcs, hcg]; rfl)
 rw [← hcs] at G FW FI
 rw [← hcg] at FG GG
 rw [← hbs] at FW2 GB P1 P3 P4 P5
 show Calls Tryz.prog 5 #[.agg (flA v S S' f), .agg (blA T)] w _
 rw [← hcs, ← hbs]
 clear hcs hbs hcg
 replace hX := hide hX
 replace hF := hide hF
 replace hF2 := hide hF2
 have k := hide ((Ro.new w cs 30).alloc (.cells bs 28))
 have kb := hide (vd_.ro_2 w (.cells cs 30) bs 28)
 have hb := hide (bl_alloc (bl_new w (.cells cs 30)) (.cells bs 28))
 have i1 := hide (h.below hb.out)
 have i2 := hide (h'.below hb.out)
 have i3 := hide (h2.below hb.out)
 have HT := hide (hT.below hb.out)
 clear h h' h2 hT
 go_enter Tryz.func5, Tryz.ntmps5
 go_upto_region 1 with fail
 generalize (w.alloc (.cells cs 30)).alloc (.cells bs 28) = u at *
 go_wp2_with fail
 refine (awake _ HT.out).mono ?_
 rintro e wn ⟨rfl, h1⟩
 replace k := hide (k.out.below h1)
 replace kb := hide (kb.out.below h1)
 replace i1 := hide (i1.out.below h1)
 replace i2 := hide (i2.out.below h1)
 replace i3 := hide (i3.out.below h1)
 replace HT := hide (HT.out.below h1)
 replace hb := hide (bel_next hb.out h1)
 clear h1
 go_wp2_with (refine load_row_g (by rfl) 30 _ rfl _ rfl _ _ _ k.out Tryz.underlying30 rfl G.1 ?_)
 refine (FW.out _ i1.out i2.out).mono ?_
 rintro e wn ⟨rfl, h1⟩
 replace k := hide (k.out.below h1)
 replace kb := hide (kb.out.below h1)
 replace i1 := hide (i1.out.below h1)
 replace i2 := hide (i2.out.below h1)
 replace i3 := hide (i3.out.below h1)
 replace HT := hide (HT.out.below h1)
 replace hb := hide (bel_next hb.out h1)
 clear h1
 clear FW
 cases F
 ·go_wp2_with fail
  refine (awake _ HT.out).mono ?_
  rintro e wn ⟨rfl, h1⟩
  replace k := hide (k.out.below h1)
  replace kb := hide (kb.out.below h1)
  replace i1 := hide (i1.out.below h1)
  replace i2 := hide (i2.out.below h1)
  replace i3 := hide (i3.out.below h1)
  replace HT := hide (HT.out.below h1)
  replace hb := hide (bel_next hb.out h1)
  clear h1
  go_wp2
  go_ret
  exact ⟨rfl, hb.out⟩
 ·go_wp2_with (refine load_row_g (by rfl) 28 _ rfl _ rfl _ _ _ kb.out Tryz.underlying28 rfl GB.1 ?_)
  refine (FW2.out _ i3.out).mono ?_
  rintro e wn ⟨rfl, h1⟩
  replace k := hide (k.out.below h1)
  replace kb := hide (kb.out.below h1)
  replace i1 := hide (i1.out.below h1)
  replace i2 := hide (i2.out.below h1)
  replace i3 := hide (i3.out.below h1)
  replace HT := hide (HT.out.below h1)
  replace hb := hide (bel_next hb.out h1)
  clear h1
  clear FW2
  cases F2
  ·go_wp2_with fail
   refine (awake _ HT.out).mono ?_
   rintro e wn ⟨rfl, h1⟩
   replace k := hide (k.out.below h1)
   replace kb := hide (kb.out.below h1)
   replace i1 := hide (i1.out.below h1)
   replace i2 := hide (i2.out.below h1)
   replace i3 := hide (i3.out.below h1)
   replace HT := hide (HT.out.below h1)
   replace hb := hide (bel_next hb.out h1)
   clear h1
   go_wp2
   go_ret
   exact ⟨rfl, hb.out⟩
  ·have hF' := hF.out.symm
   rw [Bool.and_eq_true, Bool.and_eq_true, decide_eq_true_eq] at hF'
   have s1 := hide (few_small i1.out hF'.1.1)
   have s2 := hide (few_small i2.out hF'.1.2)
   have s3 := hide (few_small i3.out hF2.out.symm)
   have hf := hide (show f.size ≤ 1000000 by omega)
   clear hF hF' hF2 hf0
   replace P1 := hide (P1.out s3.out)
   replace P3 := hide (P3.out s3.out)
   replace P4 := hide (P4.out s3.out)
   replace P5 := hide (P5.out s3.out)
   go_wp2_with (refine load_row_g (by rfl) 30 _ rfl _ rfl _ _ _ k.out Tryz.underlying30 rfl G.1 ?_)
   refine (FI.out s1.out s2.out hf.out _ HT.out i1.out i2.out).mono ?_
   rintro e wn ⟨rfl, h1⟩
   replace k := hide (k.out.below h1)
   replace kb := hide (kb.out.below h1)
   replace i1 := hide (i1.out.below h1)
   replace i2 := hide (i2.out.below h1)
   replace i3 := hide (i3.out.below h1)
   replace HT := hide (HT.out.below h1)
   replace hb := hide (bel_next hb.out h1)
   clear h1
   clear FI
   obtain ⟨y0, _⟩ := ro_cf k.out 0 _ q0.out
   by_cases x0 : X = 0
   rotate_left
   ·have dx : (X == 0) = false := by simpa using x0
    have dx' : decide (X = 0) = false := decide_eq_false x0
    replace x0 := hide x0
    clear FG hX eg GG
    go_upto_region 8 with fail
    clear y0
    go_wp2_with (refine load_row_g (by rfl) 28 _ rfl _ rfl _ _ _ kb.out Tryz.underlying28 rfl GB.1 ?_)
    refine (P3.out _ i3.out).mono ?_
    rintro e wn ⟨rfl, h1⟩
    replace k := hide (k.out.below h1)
    replace kb := hide (kb.out.below h1)
    replace i1 := hide (i1.out.below h1)
    replace i2 := hide (i2.out.below h1)
    replace i3 := hide (i3.out.below h1)
    replace HT := hide (HT.out.below h1)
    replace hb := hide (bel_next hb.out h1)
    clear h1
    clear P3
    by_cases z3 : e3 = 0
    ·have z8 := hle.out z3
     subst z3
     subst z8
     clear hle hwd
     go_wp2_with (refine load_row_g (by rfl) 28 _ rfl _ rfl _ _ _ kb.out Tryz.underlying28 rfl GB.1 ?_)
     refine (P1.out _ i3.out).mono ?_
     rintro e wn ⟨rfl, h1⟩
     replace k := hide (k.out.below h1)
     replace kb := hide (kb.out.below h1)
     replace i1 := hide (i1.out.below h1)
     replace i2 := hide (i2.out.below h1)
     replace i3 := hide (i3.out.below h1)
     replace HT := hide (HT.out.below h1)
     replace hb := hide (bel_next hb.out h1)
     clear h1
     go_wp2_with (refine load_row_g (by rfl) 28 _ rfl _ rfl _ _ _ kb.out Tryz.underlying28 rfl GB.1 ?_)
     refine (P4.out _ i3.out).mono ?_
     rintro e wn ⟨rfl, h1⟩
     replace k := hide (k.out.below h1)
     replace kb := hide (kb.out.below h1)
     replace i1 := hide (i1.out.below h1)
     replace i2 := hide (i2.out.below h1)
     replace i3 := hide (i3.out.below h1)
     replace HT := hide (HT.out.below h1)
     replace hb := hide (bel_next hb.out h1)
     clear h1
     go_wp2_with (refine load_row_g (by rfl) 28 _ rfl _ rfl _ _ _ kb.out Tryz.underlying28 rfl GB.1 ?_)
     refine (P5.out _ i3.out).mono ?_
     rintro e wn ⟨rfl, h1⟩
     replace k := hide (k.out.below h1)
     replace kb := hide (kb.out.below h1)
     replace i1 := hide (i1.out.below h1)
     replace i2 := hide (i2.out.below h1)
     replace i3 := hide (i3.out.below h1)
     replace HT := hide (HT.out.below h1)
     replace hb := hide (bel_next hb.out h1)
     clear h1
     by_cases z4 : e4 = 0
     ·subst z4
      go_wp2_with (refine load_row_g (by rfl) 28 _ rfl _ rfl _ _ _ kb.out Tryz.underlying28 rfl GB.1 ?_)
      refine (P4.out _ i3.out).mono ?_
      rintro e wn ⟨rfl, h1⟩
      replace k := hide (k.out.below h1)
      replace kb := hide (kb.out.below h1)
      replace i1 := hide (i1.out.below h1)
      replace i2 := hide (i2.out.below h1)
      replace i3 := hide (i3.out.below h1)
      replace HT := hide (HT.out.below h1)
      replace hb := hide (bel_next hb.out h1)
      clear h1
      go_wp2
      go_ret
      exact ⟨rfl, hb.out⟩
     ·have d4 : (e4 != 0) = true := by simpa using z4
      have d4' : decide (e4 = 0) = false := decide_eq_false z4
      replace z4 := hide z4
      go_wp2
      go_ret
      exact ⟨retb (by simp), hb.out⟩
    ·have d3 : (e3 == 0) = false := by simpa using z3
     have d3' : decide (e3 = 0) = false := decide_eq_false z3
     replace z3 := hide z3
     go_upto_region 10 with fail
     go_wp2_with (refine load_row_g (by rfl) 28 _ rfl _ rfl _ _ _ kb.out Tryz.underlying28 rfl GB.1 ?_)
     refine (P5.out _ i3.out).mono ?_
     rintro e wn ⟨rfl, h1⟩
     replace k := hide (k.out.below h1)
     replace kb := hide (kb.out.below h1)
     replace i1 := hide (i1.out.below h1)
     replace i2 := hide (i2.out.below h1)
     replace i3 := hide (i3.out.below h1)
     replace HT := hide (HT.out.below h1)
     replace hb := hide (bel_next hb.out h1)
     clear h1
     by_cases z4 : e4 = 0
     ·have z8 := hwd.out z4
      subst z4
      subst z8
      go_wp2_with (refine load_row_g (by rfl) 28 _ rfl _ rfl _ _ _ kb.out Tryz.underlying28 rfl GB.1 ?_)
      refine (P4.out _ i3.out).mono ?_
      rintro e wn ⟨rfl, h1⟩
      replace k := hide (k.out.below h1)
      replace kb := hide (kb.out.below h1)
      replace i1 := hide (i1.out.below h1)
      replace i2 := hide (i2.out.below h1)
      replace i3 := hide (i3.out.below h1)
      replace HT := hide (HT.out.below h1)
      replace hb := hide (bel_next hb.out h1)
      clear h1
      go_wp2
      go_ret
      exact ⟨rfl, hb.out⟩
     ·have d4 : (e4 != 0) = true := by simpa using z4
      have d4' : decide (e4 = 0) = false := decide_eq_false z4
      replace z4 := hide z4
      go_wp2
      go_ret
      exact ⟨retb (by simp), hb.out⟩
   by_cases v0 : 2 ≤ v
   rotate_left
   ·have dv : decide (2 ≤ v) = false := decide_eq_false v0
    replace v0 := hide v0
    subst x0
    clear FG hX eg GG
    go_upto_region 8 with fail
    clear y0
    go_wp2_with (refine load_row_g (by rfl) 28 _ rfl _ rfl _ _ _ kb.out Tryz.underlying28 rfl GB.1 ?_)
    refine (P3.out _ i3.out).mono ?_
    rintro e wn ⟨rfl, h1⟩
    replace k := hide (k.out.below h1)
    replace kb := hide (kb.out.below h1)
    replace i1 := hide (i1.out.below h1)
    replace i2 := hide (i2.out.below h1)
    replace i3 := hide (i3.out.below h1)
    replace HT := hide (HT.out.below h1)
    replace hb := hide (bel_next hb.out h1)
    clear h1
    clear P3
    by_cases z3 : e3 = 0
    ·have z8 := hle.out z3
     subst z3
     subst z8
     clear hle hwd
     go_wp2_with (refine load_row_g (by rfl) 28 _ rfl _ rfl _ _ _ kb.out Tryz.underlying28 rfl GB.1 ?_)
     refine (P1.out _ i3.out).mono ?_
     rintro e wn ⟨rfl, h1⟩
     replace k := hide (k.out.below h1)
     replace kb := hide (kb.out.below h1)
     replace i1 := hide (i1.out.below h1)
     replace i2 := hide (i2.out.below h1)
     replace i3 := hide (i3.out.below h1)
     replace HT := hide (HT.out.below h1)
     replace hb := hide (bel_next hb.out h1)
     clear h1
     go_wp2_with (refine load_row_g (by rfl) 28 _ rfl _ rfl _ _ _ kb.out Tryz.underlying28 rfl GB.1 ?_)
     refine (P4.out _ i3.out).mono ?_
     rintro e wn ⟨rfl, h1⟩
     replace k := hide (k.out.below h1)
     replace kb := hide (kb.out.below h1)
     replace i1 := hide (i1.out.below h1)
     replace i2 := hide (i2.out.below h1)
     replace i3 := hide (i3.out.below h1)
     replace HT := hide (HT.out.below h1)
     replace hb := hide (bel_next hb.out h1)
     clear h1
     go_wp2_with (refine load_row_g (by rfl) 28 _ rfl _ rfl _ _ _ kb.out Tryz.underlying28 rfl GB.1 ?_)
     refine (P5.out _ i3.out).mono ?_
     rintro e wn ⟨rfl, h1⟩
     replace k := hide (k.out.below h1)
     replace kb := hide (kb.out.below h1)
     replace i1 := hide (i1.out.below h1)
     replace i2 := hide (i2.out.below h1)
     replace i3 := hide (i3.out.below h1)
     replace HT := hide (HT.out.below h1)
     replace hb := hide (bel_next hb.out h1)
     clear h1
     by_cases z4 : e4 = 0
     ·subst z4
      go_wp2_with (refine load_row_g (by rfl) 28 _ rfl _ rfl _ _ _ kb.out Tryz.underlying28 rfl GB.1 ?_)
      refine (P4.out _ i3.out).mono ?_
      rintro e wn ⟨rfl, h1⟩
      replace k := hide (k.out.below h1)
      replace kb := hide (kb.out.below h1)
      replace i1 := hide (i1.out.below h1)
      replace i2 := hide (i2.out.below h1)
      replace i3 := hide (i3.out.below h1)
      replace HT := hide (HT.out.below h1)
      replace hb := hide (bel_next hb.out h1)
      clear h1
      go_wp2
      go_ret
      exact ⟨rfl, hb.out⟩
     ·have d4 : (e4 != 0) = true := by simpa using z4
      have d4' : decide (e4 = 0) = false := decide_eq_false z4
      replace z4 := hide z4
      go_wp2
      go_ret
      exact ⟨retb (by simp), hb.out⟩
    ·have d3 : (e3 == 0) = false := by simpa using z3
     have d3' : decide (e3 = 0) = false := decide_eq_false z3
     replace z3 := hide z3
     go_upto_region 10 with fail
     go_wp2_with (refine load_row_g (by rfl) 28 _ rfl _ rfl _ _ _ kb.out Tryz.underlying28 rfl GB.1 ?_)
     refine (P5.out _ i3.out).mono ?_
     rintro e wn ⟨rfl, h1⟩
     replace k := hide (k.out.below h1)
     replace kb := hide (kb.out.below h1)
     replace i1 := hide (i1.out.below h1)
     replace i2 := hide (i2.out.below h1)
     replace i3 := hide (i3.out.below h1)
     replace HT := hide (HT.out.below h1)
     replace hb := hide (bel_next hb.out h1)
     clear h1
     by_cases z4 : e4 = 0
     ·have z8 := hwd.out z4
      subst z4
      subst z8
      go_wp2_with (refine load_row_g (by rfl) 28 _ rfl _ rfl _ _ _ kb.out Tryz.underlying28 rfl GB.1 ?_)
      refine (P4.out _ i3.out).mono ?_
      rintro e wn ⟨rfl, h1⟩
      replace k := hide (k.out.below h1)
      replace kb := hide (kb.out.below h1)
      replace i1 := hide (i1.out.below h1)
      replace i2 := hide (i2.out.below h1)
      replace i3 := hide (i3.out.below h1)
      replace HT := hide (HT.out.below h1)
      replace hb := hide (bel_next hb.out h1)
      clear h1
      go_wp2
      go_ret
      exact ⟨rfl, hb.out⟩
     ·have d4 : (e4 != 0) = true := by simpa using z4
      have d4' : decide (e4 = 0) = false := decide_eq_false z4
      replace z4 := hide z4
      go_wp2
      go_ret
      exact ⟨retb (by simp), hb.out⟩
   have dv : decide (2 ≤ v) = true := decide_eq_true v0
   by_cases v1 : v < 4
   rotate_left
   ·have dv4 : decide (v < 4) = false := decide_eq_false v1
    replace v0 := hide v0
    replace v1 := hide v1
    subst x0
    clear FG hX eg GG
    go_upto_region 8 with fail
    clear y0
    go_wp2_with (refine load_row_g (by rfl) 28 _ rfl _ rfl _ _ _ kb.out Tryz.underlying28 rfl GB.1 ?_)
    refine (P3.out _ i3.out).mono ?_
    rintro e wn ⟨rfl, h1⟩
    replace k := hide (k.out.below h1)
    replace kb := hide (kb.out.below h1)
    replace i1 := hide (i1.out.below h1)
    replace i2 := hide (i2.out.below h1)
    replace i3 := hide (i3.out.below h1)
    replace HT := hide (HT.out.below h1)
    replace hb := hide (bel_next hb.out h1)
    clear h1
    clear P3
    by_cases z3 : e3 = 0
    ·have z8 := hle.out z3
     subst z3
     subst z8
     clear hle hwd
     go_wp2_with (refine load_row_g (by rfl) 28 _ rfl _ rfl _ _ _ kb.out Tryz.underlying28 rfl GB.1 ?_)
     refine (P1.out _ i3.out).mono ?_
     rintro e wn ⟨rfl, h1⟩
     replace k := hide (k.out.below h1)
     replace kb := hide (kb.out.below h1)
     replace i1 := hide (i1.out.below h1)
     replace i2 := hide (i2.out.below h1)
     replace i3 := hide (i3.out.below h1)
     replace HT := hide (HT.out.below h1)
     replace hb := hide (bel_next hb.out h1)
     clear h1
     go_wp2_with (refine load_row_g (by rfl) 28 _ rfl _ rfl _ _ _ kb.out Tryz.underlying28 rfl GB.1 ?_)
     refine (P4.out _ i3.out).mono ?_
     rintro e wn ⟨rfl, h1⟩
     replace k := hide (k.out.below h1)
     replace kb := hide (kb.out.below h1)
     replace i1 := hide (i1.out.below h1)
     replace i2 := hide (i2.out.below h1)
     replace i3 := hide (i3.out.below h1)
     replace HT := hide (HT.out.below h1)
     replace hb := hide (bel_next hb.out h1)
     clear h1
     go_wp2_with (refine load_row_g (by rfl) 28 _ rfl _ rfl _ _ _ kb.out Tryz.underlying28 rfl GB.1 ?_)
     refine (P5.out _ i3.out).mono ?_
     rintro e wn ⟨rfl, h1⟩
     replace k := hide (k.out.below h1)
     replace kb := hide (kb.out.below h1)
     replace i1 := hide (i1.out.below h1)
     replace i2 := hide (i2.out.below h1)
     replace i3 := hide (i3.out.below h1)
     replace HT := hide (HT.out.below h1)
     replace hb := hide (bel_next hb.out h1)
     clear h1
     by_cases z4 : e4 = 0
     ·subst z4
      go_wp2_with (refine load_row_g (by rfl) 28 _ rfl _ rfl _ _ _ kb.out Tryz.underlying28 rfl GB.1 ?_)
      refine (P4.out _ i3.out).mono ?_
      rintro e wn ⟨rfl, h1⟩
      replace k := hide (k.out.below h1)
      replace kb := hide (kb.out.below h1)
      replace i1 := hide (i1.out.below h1)
      replace i2 := hide (i2.out.below h1)
      replace i3 := hide (i3.out.below h1)
      replace HT := hide (HT.out.below h1)
      replace hb := hide (bel_next hb.out h1)
      clear h1
      go_wp2
      go_ret
      exact ⟨rfl, hb.out⟩
     ·have d4 : (e4 != 0) = true := by simpa using z4
      have d4' : decide (e4 = 0) = false := decide_eq_false z4
      replace z4 := hide z4
      go_wp2
      go_ret
      exact ⟨retb (by simp), hb.out⟩
    ·have d3 : (e3 == 0) = false := by simpa using z3
     have d3' : decide (e3 = 0) = false := decide_eq_false z3
     replace z3 := hide z3
     go_upto_region 10 with fail
     go_wp2_with (refine load_row_g (by rfl) 28 _ rfl _ rfl _ _ _ kb.out Tryz.underlying28 rfl GB.1 ?_)
     refine (P5.out _ i3.out).mono ?_
     rintro e wn ⟨rfl, h1⟩
     replace k := hide (k.out.below h1)
     replace kb := hide (kb.out.below h1)
     replace i1 := hide (i1.out.below h1)
     replace i2 := hide (i2.out.below h1)
     replace i3 := hide (i3.out.below h1)
     replace HT := hide (HT.out.below h1)
     replace hb := hide (bel_next hb.out h1)
     clear h1
     by_cases z4 : e4 = 0
     ·have z8 := hwd.out z4
      subst z4
      subst z8
      go_wp2_with (refine load_row_g (by rfl) 28 _ rfl _ rfl _ _ _ kb.out Tryz.underlying28 rfl GB.1 ?_)
      refine (P4.out _ i3.out).mono ?_
      rintro e wn ⟨rfl, h1⟩
      replace k := hide (k.out.below h1)
      replace kb := hide (kb.out.below h1)
      replace i1 := hide (i1.out.below h1)
      replace i2 := hide (i2.out.below h1)
      replace i3 := hide (i3.out.below h1)
      replace HT := hide (HT.out.below h1)
      replace hb := hide (bel_next hb.out h1)
      clear h1
      go_wp2
      go_ret
      exact ⟨rfl, hb.out⟩
     ·have d4 : (e4 != 0) = true := by simpa using z4
      have d4' : decide (e4 = 0) = false := decide_eq_false z4
      replace z4 := hide z4
      go_wp2
      go_ret
      exact ⟨retb (by simp), hb.out⟩
   have dv4 : decide (v < 4) = true := decide_eq_true v1
   have iv : IntKind.i64.wrap (v + 1) = v + 1 := by rw [IntKind.wrap_i64]; omega
   replace FG := hide (FG.out x0 v0 v1 s1.out s2.out hf.out)
   replace v0 := hide v0
   replace v1 := hide v1
   subst x0
   go_upto_region 5 with (first | (refine wpList_store_row rfl 30 _ _ rfl _ _ rfl rfl _ _ (heap_alloc_last _ _) G.1 (by rw [G.2.1]; rfl) G.2.2 ?_; rw [World.setRow_alloc_new]) | (refine load_row_g (by rfl) 30 _ rfl _ rfl _ _ _ k.out Tryz.underlying30 rfl G.1 ?_))
   have ka := hide (Ro.new wn cs 30)
   obtain ⟨ya, za⟩ := ro_cf ka.out 0 _ q0.out
   have h1 := bl_new wn (.cells (cs.setIfInBounds 0 (.int .i64 (v + 1))) 30)
   have kg := Ro.new wn (cs.setIfInBounds 0 (.int .i64 (v + 1))) 30
   clear ka
   have kx := hide (k.out.alloc (.cells cs 30))
   obtain ⟨yx, _⟩ := ro_cf kx.out 0 _ q0.out
   go_upto_region 6 with fail
   clear ya za yx kx
   rw [eg.out] at kg h1
   replace kg := hide kg
   rw [eg.out]
   clear y0
   replace k := hide (k.out.below h1)
   replace kb := hide (kb.out.below h1)
   replace i1 := hide (i1.out.below h1)
   replace i2 := hide (i2.out.below h1)
   replace i3 := hide (i3.out.below h1)
   replace HT := hide (HT.out.below h1)
   replace hb := hide (bel_next hb.out h1)
   clear h1
   generalize wn.alloc (.cells cg 30) = ug at *
   generalize wn.heap.size = gg at *
   go_wp2_with (refine load_row_g (by rfl) 30 _ rfl _ rfl _ _ _ kg.out Tryz.underlying30 rfl GG.1 ?_)
   refine (FG.out _ HT.out i1.out i2.out).mono ?_
   rintro e wo ⟨rfl, h1⟩
   replace k := hide (k.out.below h1)
   replace kb := hide (kb.out.below h1)
   replace i1 := hide (i1.out.below h1)
   replace i2 := hide (i2.out.below h1)
   replace i3 := hide (i3.out.below h1)
   replace kg := hide (kg.out.below h1)
   replace HT := hide (HT.out.below h1)
   replace hb := hide (bel_next hb.out h1)
   clear h1
   clear FG kg hX eg GG
   go_upto_region 8 with fail
   go_wp2_with (refine load_row_g (by rfl) 28 _ rfl _ rfl _ _ _ kb.out Tryz.underlying28 rfl GB.1 ?_)
   refine (P3.out _ i3.out).mono ?_
   rintro e wn ⟨rfl, h1⟩
   replace k := hide (k.out.below h1)
   replace kb := hide (kb.out.below h1)
   replace i1 := hide (i1.out.below h1)
   replace i2 := hide (i2.out.below h1)
   replace i3 := hide (i3.out.below h1)
   replace HT := hide (HT.out.below h1)
   replace hb := hide (bel_next hb.out h1)
   clear h1
   clear P3
   by_cases z3 : e3 = 0
   ·have z8 := hle.out z3
    subst z3
    subst z8
    clear hle hwd
    go_wp2_with (refine load_row_g (by rfl) 28 _ rfl _ rfl _ _ _ kb.out Tryz.underlying28 rfl GB.1 ?_)
    refine (P1.out _ i3.out).mono ?_
    rintro e wn ⟨rfl, h1⟩
    replace k := hide (k.out.below h1)
    replace kb := hide (kb.out.below h1)
    replace i1 := hide (i1.out.below h1)
    replace i2 := hide (i2.out.below h1)
    replace i3 := hide (i3.out.below h1)
    replace HT := hide (HT.out.below h1)
    replace hb := hide (bel_next hb.out h1)
    clear h1
    go_wp2_with (refine load_row_g (by rfl) 28 _ rfl _ rfl _ _ _ kb.out Tryz.underlying28 rfl GB.1 ?_)
    refine (P4.out _ i3.out).mono ?_
    rintro e wn ⟨rfl, h1⟩
    replace k := hide (k.out.below h1)
    replace kb := hide (kb.out.below h1)
    replace i1 := hide (i1.out.below h1)
    replace i2 := hide (i2.out.below h1)
    replace i3 := hide (i3.out.below h1)
    replace HT := hide (HT.out.below h1)
    replace hb := hide (bel_next hb.out h1)
    clear h1
    go_wp2_with (refine load_row_g (by rfl) 28 _ rfl _ rfl _ _ _ kb.out Tryz.underlying28 rfl GB.1 ?_)
    refine (P5.out _ i3.out).mono ?_
    rintro e wn ⟨rfl, h1⟩
    replace k := hide (k.out.below h1)
    replace kb := hide (kb.out.below h1)
    replace i1 := hide (i1.out.below h1)
    replace i2 := hide (i2.out.below h1)
    replace i3 := hide (i3.out.below h1)
    replace HT := hide (HT.out.below h1)
    replace hb := hide (bel_next hb.out h1)
    clear h1
    by_cases z4 : e4 = 0
    ·subst z4
     go_wp2_with (refine load_row_g (by rfl) 28 _ rfl _ rfl _ _ _ kb.out Tryz.underlying28 rfl GB.1 ?_)
     refine (P4.out _ i3.out).mono ?_
     rintro e wn ⟨rfl, h1⟩
     replace k := hide (k.out.below h1)
     replace kb := hide (kb.out.below h1)
     replace i1 := hide (i1.out.below h1)
     replace i2 := hide (i2.out.below h1)
     replace i3 := hide (i3.out.below h1)
     replace HT := hide (HT.out.below h1)
     replace hb := hide (bel_next hb.out h1)
     clear h1
     go_wp2
     go_ret
     exact ⟨rfl, hb.out⟩
    ·have d4 : (e4 != 0) = true := by simpa using z4
     have d4' : decide (e4 = 0) = false := decide_eq_false z4
     replace z4 := hide z4
     go_wp2
     go_ret
     exact ⟨retb (by simp), hb.out⟩
   ·have d3 : (e3 == 0) = false := by simpa using z3
    have d3' : decide (e3 = 0) = false := decide_eq_false z3
    replace z3 := hide z3
    go_upto_region 10 with fail
    go_wp2_with (refine load_row_g (by rfl) 28 _ rfl _ rfl _ _ _ kb.out Tryz.underlying28 rfl GB.1 ?_)
    refine (P5.out _ i3.out).mono ?_
    rintro e wn ⟨rfl, h1⟩
    replace k := hide (k.out.below h1)
    replace kb := hide (kb.out.below h1)
    replace i1 := hide (i1.out.below h1)
    replace i2 := hide (i2.out.below h1)
    replace i3 := hide (i3.out.below h1)
    replace HT := hide (HT.out.below h1)
    replace hb := hide (bel_next hb.out h1)
    clear h1
    by_cases z4 : e4 = 0
    ·have z8 := hwd.out z4
     subst z4
     subst z8
     go_wp2_with (refine load_row_g (by rfl) 28 _ rfl _ rfl _ _ _ kb.out Tryz.underlying28 rfl GB.1 ?_)
     refine (P4.out _ i3.out).mono ?_
     rintro e wn ⟨rfl, h1⟩
     replace k := hide (k.out.below h1)
     replace kb := hide (kb.out.below h1)
     replace i1 := hide (i1.out.below h1)
     replace i2 := hide (i2.out.below h1)
     replace i3 := hide (i3.out.below h1)
     replace HT := hide (HT.out.below h1)
     replace hb := hide (bel_next hb.out h1)
     clear h1
     go_wp2
     go_ret
     exact ⟨rfl, hb.out⟩
    ·have d4 : (e4 != 0) = true := by simpa using z4
     have d4' : decide (e4 = 0) = false := decide_eq_false z4
     replace z4 := hide z4
     go_wp2
     go_ret
     exact ⟨retb (by simp), hb.out⟩
end l20_
end Go.Proofs.YtbehflfpdkedgaaGreatDoor
