/-
  Texts of mine in one file: Law20e. Their conditions stand in the theorems.
-/
import Derived.Test.YtbehflfpdkedgaaGreatDoorQ33
import Derived.Test.YtbehflfpdkedgaaGreatDoorQ34
import Derived.Test.YtbehflfpdkedgaaGreatDoorQ41
import Derived.Deep.RegionHeld3
import Derived.Deep.DeepCutAuto
namespace Go.Proofs.YtbehflfpdkedgaaGreatDoor
set_option linter.unusedVariables false
set_option linter.unusedSimpArgs false
set_option maxRecDepth 100000
set_option maxHeartbeats 16000000
open Go.ChangeShapes Go.WideShapes Go.ChangeAt Go.RowKit
namespace l20_
theorem mref (v : Int) (S : BkS) (A : Bk) (S' : BkS) (B : Bk) (f : ByteArray) (T : BkS) (C : Bk) (i : Int) (wd : Bool) (w : World) (hT : Tb w) (hv : (Lit.int .i64 v).wf = true) (h : IsBk w S A) (h' : IsBk w S' B) (hf0 : f.size ≤ maxLen) (h2 : IsBk w T C) (hi : (Lit.int .u8 i).wf = true) :
 Calls Tryz.prog 3 #[.agg (flA v S S' f), .agg (blA T), .int .u8 i, .bool wd] w fun e w' => e = .returned (.bool true) ∧ Below w.heap.size w w' := by
 clear hv
 have G := gr_file v S S' f
 obtain ⟨cs, hcs⟩ : ∃ cs, cs = flA v S S' f := ⟨_, rfl⟩
 have q0 := hide (show cs[0]? = some (.int .i64 v) by rw [hcs]; rfl)
 have q1 := hide (show cs[1]? = some (.slice S.ti.A S.ti.n S.ti.c) by rw [hcs]; rfl)
 have q2 := hide (show cs[2]? = some (.slice S.ix.A S.ix.n S.ix.c) by rw [hcs]; rfl)
 have q3 := hide (show cs[3]? = some (.slice S.ty.A S.ty.n S.ty.c) by rw [hcs]; rfl)
 have q4 := hide (show cs[4]? = some (.slice S.ch.A S.ch.n S.ch.c) by rw [hcs]; rfl)
 have q5 := hide (show cs[5]? = some (.slice S.lp.A S.lp.n S.lp.c) by rw [hcs]; rfl)
 have q6 := hide (show cs[6]? = some (.slice S.sd.A S.sd.n S.sd.c) by rw [hcs]; rfl)
 have q7 := hide (show cs[7]? = some (.slice S.ut.A S.ut.n S.ut.c) by rw [hcs]; rfl)
 have q8 := hide (show cs[8]? = some (.slice S'.ti.A S'.ti.n S'.ti.c) by rw [hcs]; rfl)
 have q9 := hide (show cs[9]? = some (.slice S'.ix.A S'.ix.n S'.ix.c) by rw [hcs]; rfl)
 have q10 := hide (show cs[10]? = some (.slice S'.ty.A S'.ty.n S'.ty.c) by rw [hcs]; rfl)
 have q11 := hide (show cs[11]? = some (.slice S'.ch.A S'.ch.n S'.ch.c) by rw [hcs]; rfl)
 have q12 := hide (show cs[12]? = some (.slice S'.lp.A S'.lp.n S'.lp.c) by rw [hcs]; rfl)
 have q13 := hide (show cs[13]? = some (.slice S'.sd.A S'.sd.n S'.sd.c) by rw [hcs]; rfl)
 have q14 := hide (show cs[14]? = some (.slice S'.ut.A S'.ut.n S'.ut.c) by rw [hcs]; rfl)
 have q15 := hide (show cs[15]? = some (.string f) by rw [hcs]; rfl)
 have GB : Gr Tryz.prog 28 7 (blA T) := gr_blk T
 obtain ⟨bs, hbs⟩ : ∃ c, c = blA T := ⟨_, rfl⟩
 obtain ⟨q_, hq⟩ : ∃ q : Int, i.tmod 4 = q := ⟨_, rfl⟩
 have hi0 := wf_u8 hi
 have qa : 0 ≤ q_ := by rw [← hq]; exact Int.tmod_nonneg _ hi0.1
 have qb : q_ < 4 := by rw [← hq]; exact Int.tmod_lt_of_pos _ (by decide)
 have qw : IntKind.i64.wrap (1 + q_) = 1 + q_ := by rw [IntKind.wrap_i64]; omega
 have qw2 : IntKind.i64.wrap q_ = q_ := by rw [IntKind.wrap_i64]; omega
 have Va : 1 ≤ 1 + q_ := by omega
 have Vb : 1 + q_ ≤ 4 := by omega
 obtain ⟨fr, hfr⟩ : ∃ fr, decide (1 + q_ = 4) = fr := ⟨_, rfl⟩
 obtain ⟨K, hk, hK⟩ : ∃ k : Nat, (k = 4 ∨ k = 8) ∧ (if wd = true then (8 : Int) else 4) = (k : Int) := by cases wd; exact ⟨4, .inl rfl, rfl⟩; exact ⟨8, .inr rfl, rfl⟩
 have ZS := hide (fun w => (r14_.SizeB wd w).mono (R' := fun e w' => e = .returned (.int .i64 (K : Int)) ∧ Below w.heap.size w w') (by rintro e w' ⟨rfl, h⟩; exact ⟨by rw [hK], h⟩))
 clear hK hi hi0
 obtain ⟨X, hX⟩ : ∃ X, X = vFile v A B (byt f) := ⟨_, rfl⟩
 obtain ⟨F, hF⟩ : ∃ F, F = (fewB A && fewB B && decide (f.size ≤ 600)) := ⟨_, rfl⟩
 obtain ⟨F2, hF2⟩ : ∃ F, F = fewB C := ⟨_, rfl⟩
 have FW := hide (fun W h h' => r20_.Few v S S' f A B W h h')
 rw [← hF] at FW
 have FW2 := hide (fun W h => show Calls Tryz.prog 10 #[.agg (blA T)] W _ from r19_.Few T C W h)
 rw [← hF2] at FW2
 have FI := hide (fun (s1 : S.small) (s2 : S'.small) (hf : f.size ≤ 1000000) W hT h h' => vd_.File v S S' f A B W hT h h' s1 s2 hf)
 have FR := hide (fun (s1 : S.small) (s2 : S'.small) (hf : f.size ≤ 1000000) W h h' => r20_.File v S S' f A B W h h' s1 s2 hf)
 rw [← hX] at FI FR
 have FO := hide (fun (s2 : S'.small) (hf : f.size ≤ 1000000) W hT h' (hB : BOk B (decide (v = 4)) 8) => vd_.Footer v S S' f B (decide (v = 4)) W hT h' s2 hf (fun _ => hB))
 have FP := hide (fun (s2 : S'.small) (hf : f.size ≤ 1000000) W h' (hB : BOk B (decide (v = 4)) 8) => r20_.Footer v S S' f B (decide (v = 4)) W h' s2 hf hB)
 have VB := hide (fun (s : T.small) W h => show Calls Tryz.prog 12 #[.agg (blA T), .int .i64 (1 + q_), .int .i64 (K : Int)] W fun e w' => e = .returned (.int .i64 (vB C fr K)) ∧ Below W.heap.size W w' from vd_.Block T C (1 + q_) fr K K W rfl hk Va Vb hfr h s)
 have RB := hide (fun (s : T.small) W h => show Calls Tryz.prog 13 #[.agg (blA T), .int .i64 (1 + q_), .int .i64 (K : Int)] W fun e w' => e = .returned (.int .i64 (vB C fr K)) ∧ Below W.heap.size W w' from r20_.Block T C (1 + q_) fr K K W rfl hk Va Vb hfr h s)
 generalize vB C fr K = e0 at *
 rw [← hcs] at G FW FI FR FO FP
 rw [← hbs] at FW2 GB VB RB
 show Calls Tryz.prog 3 #[.agg (flA v S S' f), .agg (blA T), .int .u8 i, .bool wd] w _
 rw [← hcs, ← hbs]
 clear hcs hbs
 replace hF := hide hF
 replace hF2 := hide hF2
 clear hX hk hfr
 replace qa := hide qa
 replace qb := hide qb
 replace Va := hide Va
 replace Vb := hide Vb
 have k := hide ((Ro.new w cs 30).alloc (.cells bs 28))
 have kb := hide (vd_.ro_2 w (.cells cs 30) bs 28)
 have hb := hide (bl_alloc (bl_new w (.cells cs 30)) (.cells bs 28))
 have i1 := hide (h.below hb.out)
 have i2 := hide (h'.below hb.out)
 have i3 := hide (h2.below hb.out)
 have HT := hide (hT.below hb.out)
 clear h h' h2 hT
 go_enter Tryz.func3, Tryz.ntmps3
 go_upto_region 1 with fail
 generalize (w.alloc (.cells cs 30)).alloc (.cells bs 28) = u at *
 go_wp2_with fail
 refine (awake _ HT.out).mono ?_
 rintro e wn ⟨rfl, h1⟩
 replace k := hide (k.out.below h1)
 replace kb := hide (kb.out.below h1)
 replace i1 := hide (i1.out.below h1)
 replace i2 := hide (i2.out.below h1)
 replace i3 := hide (i3.out.below h1)
 replace HT := hide (HT.out.below h1)
 replace hb := hide (bel_next hb.out h1)
 clear h1
 go_wp2_with (refine load_row_g (by rfl) 30 _ rfl _ rfl _ _ _ k.out Tryz.underlying30 rfl G.1 ?_)
 refine (FW.out _ i1.out i2.out).mono ?_
 rintro e wn ⟨rfl, h1⟩
 replace k := hide (k.out.below h1)
 replace kb := hide (kb.out.below h1)
 replace i1 := hide (i1.out.below h1)
 replace i2 := hide (i2.out.below h1)
 replace i3 := hide (i3.out.below h1)
 replace HT := hide (HT.out.below h1)
 replace hb := hide (bel_next hb.out h1)
 clear h1
 clear FW
 cases F
 ·go_wp2_with fail
  refine (awake _ HT.out).mono ?_
  rintro e wn ⟨rfl, h1⟩
  replace k := hide (k.out.below h1)
  replace kb := hide (kb.out.below h1)
  replace i1 := hide (i1.out.below h1)
  replace i2 := hide (i2.out.below h1)
  replace i3 := hide (i3.out.below h1)
  replace HT := hide (HT.out.below h1)
  replace hb := hide (bel_next hb.out h1)
  clear h1
  go_wp2
  go_ret
  exact ⟨rfl, hb.out⟩
 ·go_wp2_with (refine load_row_g (by rfl) 28 _ rfl _ rfl _ _ _ kb.out Tryz.underlying28 rfl GB.1 ?_)
  refine (FW2.out _ i3.out).mono ?_
  rintro e wn ⟨rfl, h1⟩
  replace k := hide (k.out.below h1)
  replace kb := hide (kb.out.below h1)
  replace i1 := hide (i1.out.below h1)
  replace i2 := hide (i2.out.below h1)
  replace i3 := hide (i3.out.below h1)
  replace HT := hide (HT.out.below h1)
  replace hb := hide (bel_next hb.out h1)
  clear h1
  clear FW2
  cases F2
  ·go_wp2_with fail
   refine (awake _ HT.out).mono ?_
   rintro e wn ⟨rfl, h1⟩
   replace k := hide (k.out.below h1)
   replace kb := hide (kb.out.below h1)
   replace i1 := hide (i1.out.below h1)
   replace i2 := hide (i2.out.below h1)
   replace i3 := hide (i3.out.below h1)
   replace HT := hide (HT.out.below h1)
   replace hb := hide (bel_next hb.out h1)
   clear h1
   go_wp2
   go_ret
   exact ⟨rfl, hb.out⟩
  ·have hF' := hF.out.symm
   rw [Bool.and_eq_true, Bool.and_eq_true, decide_eq_true_eq] at hF'
   have s1 := hide (few_small i1.out hF'.1.1)
   have s2 := hide (few_small i2.out hF'.1.2)
   have s3 := hide (few_small i3.out hF2.out.symm)
   have hf := hide (show f.size ≤ 1000000 by omega)
   clear hF hF' hF2 hf0
   replace VB := hide (VB.out s3.out)
   replace RB := hide (RB.out s3.out)
   replace FI := hide (FI.out s1.out s2.out hf.out)
   replace FR := hide (FR.out s1.out s2.out hf.out)
   replace FO := hide (FO.out s2.out hf.out)
   replace FP := hide (FP.out s2.out hf.out)
   clear s3
   go_wp2_with fail
   refine (ZS.out _).mono ?_
   rintro e wz ⟨rfl, h1⟩
   replace k := hide (k.out.below h1)
   replace kb := hide (kb.out.below h1)
   replace i1 := hide (i1.out.below h1)
   replace i2 := hide (i2.out.below h1)
   replace i3 := hide (i3.out.below h1)
   replace HT := hide (HT.out.below h1)
   replace hb := hide (bel_next hb.out h1)
   clear h1
   clear ZS hq qw qw2
   go_upto_region 5 with fail
   refine wp_region_held_drew (S := fun w' => Hid (Ro w' (w.heap.size) (cs) 30) ∧ Hid (Ro w' (w.heap.size + 1) (bs) 28) ∧ Hid (IsBk w' T C) ∧ Hid (IsBk w' S A) ∧ Hid (IsBk w' S' B) ∧ Hid (Tb w') ∧ Hid (Below w.heap.size w w')) (by kernel_rfl) (⟨hide k.out.drew, hide kb.out.drew, hide i3.out.drew, hide i1.out.drew, hide i2.out.drew, hide (HT.out.below (bl_drew (bl_refl _))), hide (bl_drew hb.out)⟩) (fun hHeld => ?_)
   generalize wz.drew = u0 at *
   refine wpAnyH_takeD (i := 0) (d := (some 34)) rfl rfl (by kernel_rfl) (by kernel_rfl) (by kernel_rfl) (fun _ _ _ h => h) (yieldsIf_load_row (by rfl) 28 _ rfl (w.heap.size + 1) rfl 28 bs _ (fun w hw => hw.2.1.out) Tryz.underlying28 rfl GB.1) (by assumption) ?_
   try simp only [Act.put, sI1, sI2, sI3]
   refine wpAnyH_takeD (i := 1) (d := (some 35)) (v := ?_) rfl rfl (by kernel_rfl) (by kernel_rfl) (by kernel_rfl) (fun _ _ _ h => h) (Or.inl ⟨by rfl, ?_⟩) (by assumption) ?_
   rotate_left
   ·((intro w hSw; go_simp) <;> with_reducible rfl)
   try simp only [Act.put, sI1, sI2, sI3]
   refine wpAnyH_takeD (i := 2) (d := (some 36)) (v := ?_) rfl rfl (by kernel_rfl) (by kernel_rfl) (by kernel_rfl) (fun _ _ _ h => h) (Or.inl ⟨by rfl, ?_⟩) (by assumption) ?_
   rotate_left
   ·((intro w hSw; go_simp) <;> with_reducible rfl)
   try simp only [Act.put, sI1, sI2, sI3]
   refine wpAnyH_takeD (i := 4) (d := (some 38)) rfl rfl (by kernel_rfl) (by kernel_rfl) (by kernel_rfl) (fun _ _ _ h => h) (yieldsIf_load_row (by rfl) 28 _ rfl (w.heap.size + 1) rfl 28 bs _ (fun w hw => hw.2.1.out) Tryz.underlying28 rfl GB.1) (by assumption) ?_
   try simp only [Act.put, sI1, sI2, sI3]
   refine wpAnyH_takeD (i := 5) (d := (some 39)) (v := ?_) rfl rfl (by kernel_rfl) (by kernel_rfl) (by kernel_rfl) (fun _ _ _ h => h) (Or.inl ⟨by rfl, ?_⟩) (by assumption) ?_
   rotate_left
   ·((intro w hSw; go_simp) <;> with_reducible rfl)
   try simp only [Act.put, sI1, sI2, sI3]
   refine wpAnyH_takeD (i := 6) (d := (some 40)) (v := ?_) rfl rfl (by kernel_rfl) (by kernel_rfl) (by kernel_rfl) (fun _ _ _ h => h) (Or.inl ⟨by rfl, ?_⟩) (by assumption) ?_
   rotate_left
   ·((intro w hSw; go_simp) <;> with_reducible rfl)
   try simp only [Act.put, sI1, sI2, sI3]
   refine wpAnyH_ready (rs := [3]) (by kernel_rfl) (by simp) ?_
   refine AllReadyH.cons rfl (fun K hK => ?_) (AllReadyH.nil)
   go_simp
   refine (VB.out _ hHeld.2.2.1.out).mono ?_
   rintro e v1 ⟨rfl, h1'⟩
   refine hK.out _ _ (⟨hide (hHeld.1.out.below h1'), hide (hHeld.2.1.out.below h1'), hide (hHeld.2.2.1.out.below h1'), hide (hHeld.2.2.2.1.out.below h1'), hide (hHeld.2.2.2.2.1.out.below h1'), hide (hHeld.2.2.2.2.2.1.out.below h1'), hide (bel_next hHeld.2.2.2.2.2.2.out h1')⟩) (fun hHeld => ?_)
   clear hK K h1'
   try simp only [Act.put, sI1, sI2, sI3]
   refine wpAnyH_ready (rs := [7]) (by kernel_rfl) (by simp) ?_
   refine AllReadyH.cons rfl (fun K hK => ?_) (AllReadyH.nil)
   go_simp
   refine (RB.out _ hHeld.2.2.1.out).mono ?_
   rintro e v2 ⟨rfl, h1'⟩
   refine hK.out _ _ (⟨hide (hHeld.1.out.below h1'), hide (hHeld.2.1.out.below h1'), hide (hHeld.2.2.1.out.below h1'), hide (hHeld.2.2.2.1.out.below h1'), hide (hHeld.2.2.2.2.1.out.below h1'), hide (hHeld.2.2.2.2.2.1.out.below h1'), hide (bel_next hHeld.2.2.2.2.2.2.out h1')⟩) (fun hHeld => ?_)
   clear hK K h1'
   try simp only [Act.put, sI1, sI2, sI3]
   refine wpAnyH_takeD (i := 8) (d := (some 42)) (v := ?_) rfl rfl (by kernel_rfl) (by kernel_rfl) (by kernel_rfl) (fun _ _ _ h => h) (Or.inl ⟨by rfl, ?_⟩) (by assumption) ?_
   rotate_left
   ·((intro w hSw; go_simp) <;> with_reducible rfl)
   try simp only [Act.put, sI1, sI2, sI3]
   refine wpAnyH_takeD (i := 9) (d := (some 43)) (v := ?_) rfl rfl (by kernel_rfl) (by kernel_rfl) (by kernel_rfl) (fun _ _ _ h => h) (Or.inl ⟨by rfl, ?_⟩) (by assumption) ?_
   rotate_left
   ·((intro w hSw; go_simp) <;> with_reducible rfl)
   try simp only [Act.put, sI1, sI2, sI3]
   refine wpAnyH_takeD (i := 10) (d := (some 44)) rfl rfl (by kernel_rfl) (by kernel_rfl) (by kernel_rfl) (fun _ _ _ h => h) (yieldsIf_load_row (by rfl) 30 _ rfl (w.heap.size) rfl 30 cs _ (fun w hw => hw.1.out) Tryz.underlying30 rfl G.1) (by assumption) ?_
   try simp only [Act.put, sI1, sI2, sI3]
   refine wpAnyH_takeD (i := 12) (d := (some 46)) rfl rfl (by kernel_rfl) (by kernel_rfl) (by kernel_rfl) (fun _ _ _ h => h) (yieldsIf_load_row (by rfl) 30 _ rfl (w.heap.size) rfl 30 cs _ (fun w hw => hw.1.out) Tryz.underlying30 rfl G.1) (by assumption) ?_
   try simp only [Act.put, sI1, sI2, sI3]
   refine wpAnyH_ready (rs := [11]) (by kernel_rfl) (by simp) ?_
   refine AllReadyH.cons rfl (fun K hK => ?_) (AllReadyH.nil)
   go_simp
   refine (FI.out _ hHeld.2.2.2.2.2.1.out hHeld.2.2.2.1.out hHeld.2.2.2.2.1.out).mono ?_
   rintro e v3 ⟨rfl, h1'⟩
   refine hK.out _ _ (⟨hide (hHeld.1.out.below h1'), hide (hHeld.2.1.out.below h1'), hide (hHeld.2.2.1.out.below h1'), hide (hHeld.2.2.2.1.out.below h1'), hide (hHeld.2.2.2.2.1.out.below h1'), hide (hHeld.2.2.2.2.2.1.out.below h1'), hide (bel_next hHeld.2.2.2.2.2.2.out h1')⟩) (fun hHeld => ?_)
   clear hK K h1'
   try simp only [Act.put, sI1, sI2, sI3]
   refine wpAnyH_ready (rs := [13]) (by kernel_rfl) (by simp) ?_
   refine AllReadyH.cons rfl (fun K hK => ?_) (AllReadyH.nil)
   go_simp
   refine (FR.out _ hHeld.2.2.2.1.out hHeld.2.2.2.2.1.out).mono ?_
   rintro e v4 ⟨rfl, h1'⟩
   refine hK.out _ _ (⟨hide (hHeld.1.out.below h1'), hide (hHeld.2.1.out.below h1'), hide (hHeld.2.2.1.out.below h1'), hide (hHeld.2.2.2.1.out.below h1'), hide (hHeld.2.2.2.2.1.out.below h1'), hide (hHeld.2.2.2.2.2.1.out.below h1'), hide (bel_next hHeld.2.2.2.2.2.2.out h1')⟩) (fun hHeld => ?_)
   clear hK K h1'
   try simp only [Act.put, sI1, sI2, sI3]
   refine wpAnyH_takeD (i := 14) (d := (some 48)) (v := ?_) rfl rfl (by kernel_rfl) (by kernel_rfl) (by kernel_rfl) (fun _ _ _ h => h) (Or.inl ⟨by rfl, ?_⟩) (by assumption) ?_
   rotate_left
   ·((intro w hSw; go_simp) <;> with_reducible rfl)
   try simp only [Act.put, sI1, sI2, sI3]
   refine wpAnyH_takeD (i := 15) (d := (some 49)) (v := ?_) rfl rfl (by kernel_rfl) (by kernel_rfl) (by kernel_rfl) (fun _ _ _ h => h) (Or.inl ⟨by rfl, ?_⟩) (by assumption) ?_
   rotate_left
   ·((intro w hSw; go_simp) <;> with_reducible rfl)
   try simp only [Act.put, sI1, sI2, sI3]
   refine wpAnyH_done (by kernel_rfl) ?_ _
   replace k := hHeld.1
   replace kb := hHeld.2.1
   replace i3 := hHeld.2.2.1
   replace i1 := hHeld.2.2.2.1
   replace i2 := hHeld.2.2.2.2.1
   replace HT := hHeld.2.2.2.2.2.1
   replace hb := hHeld.2.2.2.2.2.2
   clear hHeld
   go_upto_region 7 with fail
   clear VB RB FI FR
   obtain ⟨y0, _⟩ := ro_cf k.out 0 _ q0.out
   by_cases v0 : v < 2
   ·have d0 : decide (v < 2) = true := decide_eq_true v0
    replace v0 := hide v0
    go_wp2
    go_ret
    exact ⟨rfl, hb.out⟩
   have d0 : decide (v < 2) = false := decide_eq_false v0
   by_cases v1 : 4 < v
   ·have d1 : decide (4 < v) = true := decide_eq_true v1
    replace v0 := hide v0
    replace v1 := hide v1
    go_wp2
    go_ret
    exact ⟨rfl, hb.out⟩
   have d1 : decide (4 < v) = false := decide_eq_false v1
   obtain ⟨four, h4⟩ : ∃ four, decide (v = 4) = four := ⟨_, rfl⟩
   rw [h4] at FO FP
   have C1 := hide (fun W h => r20_.Block S A v four 4 4 W rfl (.inl rfl) (by omega) (by omega) h4 h s1.out)
   have C2 := hide (fun W h => r20_.Block S' B v four 8 8 W rfl (.inr rfl) (by omega) (by omega) h4 h s2.out)
   dsimp only [bkV] at C1 C2
   have hB8 := hide (fun h => (vB_iff B four 8).1 h)
   generalize vB A four 4 = e1 at *
   generalize vB B four 8 = e2 at *
   replace v0 := hide v0
   replace v1 := hide v1
   replace h4 := hide h4
   obtain ⟨y1, _⟩ := ro_cf k.out 1 _ q1.out
   obtain ⟨y2, _⟩ := ro_cf k.out 2 _ q2.out
   obtain ⟨y3, _⟩ := ro_cf k.out 3 _ q3.out
   obtain ⟨y4, _⟩ := ro_cf k.out 4 _ q4.out
   obtain ⟨y5, _⟩ := ro_cf k.out 5 _ q5.out
   obtain ⟨y6, _⟩ := ro_cf k.out 6 _ q6.out
   obtain ⟨y7, _⟩ := ro_cf k.out 7 _ q7.out
   go_wp2_with fail
   refine (C1.out _ i1.out).mono ?_
   rintro e wn ⟨rfl, h1⟩
   replace k := hide (k.out.below h1)
   replace kb := hide (kb.out.below h1)
   replace i1 := hide (i1.out.below h1)
   replace i2 := hide (i2.out.below h1)
   replace i3 := hide (i3.out.below h1)
   replace HT := hide (HT.out.below h1)
   replace hb := hide (bel_next hb.out h1)
   clear h1
   clear C1 y0 y1 y2 y3 y4 y5 y6 y7
   by_cases z1 : e1 = 0
   rotate_left
   ·have d6 : (e1 != 0) = true := by simpa using z1
    have d7 : decide (e1 = 0) = false := decide_eq_false z1
    replace z1 := hide z1
    go_wp2
    go_ret
    exact ⟨rfl, hb.out⟩
   subst z1
   obtain ⟨y0, _⟩ := ro_cf k.out 0 _ q0.out
   obtain ⟨y8, _⟩ := ro_cf k.out 8 _ q8.out
   obtain ⟨y9, _⟩ := ro_cf k.out 9 _ q9.out
   obtain ⟨y10, _⟩ := ro_cf k.out 10 _ q10.out
   obtain ⟨y11, _⟩ := ro_cf k.out 11 _ q11.out
   obtain ⟨y12, _⟩ := ro_cf k.out 12 _ q12.out
   obtain ⟨y13, _⟩ := ro_cf k.out 13 _ q13.out
   obtain ⟨y14, _⟩ := ro_cf k.out 14 _ q14.out
   go_wp2_with fail
   refine (C2.out _ i2.out).mono ?_
   rintro e wn ⟨rfl, h1⟩
   replace k := hide (k.out.below h1)
   replace kb := hide (kb.out.below h1)
   replace i1 := hide (i1.out.below h1)
   replace i2 := hide (i2.out.below h1)
   replace i3 := hide (i3.out.below h1)
   replace HT := hide (HT.out.below h1)
   replace hb := hide (bel_next hb.out h1)
   clear h1
   clear C2 y0 y8 y9 y10 y11 y12 y13 y14
   by_cases z2 : e2 = 0
   rotate_left
   ·have d6 : (e2 != 0) = true := by simpa using z2
    have d7 : decide (e2 = 0) = false := decide_eq_false z2
    replace z2 := hide z2
    go_wp2
    go_ret
    exact ⟨rfl, hb.out⟩
   subst z2
   have hB := hide (hB8.out rfl)
   clear hB8
   generalize vF (byt f) v B = p at *
   obtain ⟨p1, p2⟩ := p
   dsimp only at FO FP
   go_upto_region 9 with fail
   go_wp2_with (refine load_row_g (by rfl) 30 _ rfl _ rfl _ _ _ k.out Tryz.underlying30 rfl G.1 ?_)
   refine (FO.out _ HT.out i2.out hB.out).mono ?_
   rintro e wn ⟨rfl, h1⟩
   replace k := hide (k.out.below h1)
   replace kb := hide (kb.out.below h1)
   replace i1 := hide (i1.out.below h1)
   replace i2 := hide (i2.out.below h1)
   replace i3 := hide (i3.out.below h1)
   replace HT := hide (HT.out.below h1)
   replace hb := hide (bel_next hb.out h1)
   clear h1
   go_wp2_with (refine load_row_g (by rfl) 30 _ rfl _ rfl _ _ _ k.out Tryz.underlying30 rfl G.1 ?_)
   refine (FP.out _ i2.out hB.out).mono ?_
   rintro e wn ⟨rfl, h1⟩
   replace k := hide (k.out.below h1)
   replace kb := hide (kb.out.below h1)
   replace i1 := hide (i1.out.below h1)
   replace i2 := hide (i2.out.below h1)
   replace i3 := hide (i3.out.below h1)
   replace HT := hide (HT.out.below h1)
   replace hb := hide (bel_next hb.out h1)
   clear h1
   go_wp2
   go_ret
   exact ⟨retb (by simp), hb.out⟩
end l20_
end Go.Proofs.YtbehflfpdkedgaaGreatDoor
