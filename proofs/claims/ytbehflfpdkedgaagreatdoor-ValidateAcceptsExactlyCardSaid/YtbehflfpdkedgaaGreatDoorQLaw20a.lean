/-
  Texts of mine in one file: Law20a. Their conditions stand in the theorems.
-/
import Derived.Test.YtbehflfpdkedgaaGreatDoorQ33
import Derived.Test.YtbehflfpdkedgaaGreatDoorQ34
import Derived.Deep.RegionHeld3
import Derived.Deep.DeepCutAuto
namespace Go.Proofs.YtbehflfpdkedgaaGreatDoor
set_option linter.unusedVariables false
set_option linter.unusedSimpArgs false
set_option maxRecDepth 100000
set_option maxHeartbeats 16000000
open Go.ChangeShapes Go.WideShapes Go.ChangeAt Go.RowKit
theorem vF_shape (l : List UInt8) (v : Int) (b : Bk) : ((vF l v b).1 = 14 ∧ 0 ≤ (vF l v b).2 ∧ (vF l v b).2 ≤ l.length) ∨ ((vF l v b).1 ≠ 14 ∧ (vF l v b).2 = 0) := by
 unfold vF
 split
 ·exact .inr ⟨by decide, rfl⟩
 ·cases hp : ptParse l with
  | error x => exact .inl ⟨rfl, by dsimp only; omega, by have := ptParse_err hp; dsimp only; omega⟩
  | ok r =>
    refine .inr ⟨?_, rfl⟩
    dsimp only
    unfold vFr
    split
    ·decide
    ·split
     ·decide
     ·split <;> decide
namespace l20_
theorem accepts (v : Int) (S : BkS) (A : Bk) (S' : BkS) (B : Bk) (f : ByteArray) (w : World) (hT : Tb w) (hv : (Lit.int .i64 v).wf = true) (h : IsBk w S A) (h' : IsBk w S' B) (hf0 : f.size ≤ maxLen) :
 Calls Tryz.prog 4 #[.agg (flA v S S' f)] w fun e w' => e = .returned (.bool true) ∧ Below w.heap.size w w' := by
 have G := gr_file v S S' f
 obtain ⟨cs, hcs⟩ : ∃ cs, cs = flA v S S' f := ⟨_, rfl⟩
 have q0 := hide (show cs[0]? = some (.int .i64 v) by rw [hcs]; rfl)
 have q1 := hide (show cs[1]? = some (.slice S.ti.A S.ti.n S.ti.c) by rw [hcs]; rfl)
 have q2 := hide (show cs[2]? = some (.slice S.ix.A S.ix.n S.ix.c) by rw [hcs]; rfl)
 have q3 := hide (show cs[3]? = some (.slice S.ty.A S.ty.n S.ty.c) by rw [hcs]; rfl)
 have q4 := hide (show cs[4]? = some (.slice S.ch.A S.ch.n S.ch.c) by rw [hcs]; rfl)
 have q5 := hide (show cs[5]? = some (.slice S.lp.A S.lp.n S.lp.c) by rw [hcs]; rfl)
 have q6 := hide (show cs[6]? = some (.slice S.sd.A S.sd.n S.sd.c) by rw [hcs]; rfl)
 have q7 := hide (show cs[7]? = some (.slice S.ut.A S.ut.n S.ut.c) by rw [hcs]; rfl)
 have q8 := hide (show cs[8]? = some (.slice S'.ti.A S'.ti.n S'.ti.c) by rw [hcs]; rfl)
 have q9 := hide (show cs[9]? = some (.slice S'.ix.A S'.ix.n S'.ix.c) by rw [hcs]; rfl)
 have q10 := hide (show cs[10]? = some (.slice S'.ty.A S'.ty.n S'.ty.c) by rw [hcs]; rfl)
 have q11 := hide (show cs[11]? = some (.slice S'.ch.A S'.ch.n S'.ch.c) by rw [hcs]; rfl)
 have q12 := hide (show cs[12]? = some (.slice S'.lp.A S'.lp.n S'.lp.c) by rw [hcs]; rfl)
 have q13 := hide (show cs[13]? = some (.slice S'.sd.A S'.sd.n S'.sd.c) by rw [hcs]; rfl)
 have q14 := hide (show cs[14]? = some (.slice S'.ut.A S'.ut.n S'.ut.c) by rw [hcs]; rfl)
 have q15 := hide (show cs[15]? = some (.string f) by rw [hcs]; rfl)
 obtain ⟨X, hX⟩ : ∃ X, X = vFile v A B (byt f) := ⟨_, rfl⟩
 obtain ⟨F, hF⟩ : ∃ F, F = (fewB A && fewB B && decide (f.size ≤ 600)) := ⟨_, rfl⟩
 have FW := hide (fun W h h' => r20_.Few v S S' f A B W h h')
 rw [← hF] at FW
 have FI := hide (fun (s1 : S.small) (s2 : S'.small) (hf : f.size ≤ 1000000) W hT h h' => vd_.File v S S' f A B W hT h h' s1 s2 hf)
 rw [← hX] at FI
 have FO := hide (fun (s2 : S'.small) (hf : f.size ≤ 1000000) W hT h' hB => vd_.Footer v S S' f B (decide (v = 4)) W hT h' s2 hf hB)
 have hz := byt_nil f
 rw [← hcs] at G FW FI FO
 show Calls Tryz.prog 4 #[.agg (flA v S S' f)] w _
 rw [← hcs]
 clear hcs
 replace hX := hide hX
 replace hF := hide hF
 replace hz := hide hz
 have k := hide (Ro.new w cs 30)
 have hb := hide (bl_new w (.cells cs 30))
 have i1 := hide (h.below hb.out)
 have i2 := hide (h'.below hb.out)
 have HT := hide (hT.below hb.out)
 clear h h' hT hv
 go_enter Tryz.func4, Tryz.ntmps4
 go_upto_region 1 with fail
 generalize (w.alloc (.cells cs 30)) = u at *
 go_wp2_with fail
 refine (awake _ HT.out).mono ?_
 rintro e wn ⟨rfl, h1⟩
 replace k := hide (k.out.below h1)
 replace i1 := hide (i1.out.below h1)
 replace i2 := hide (i2.out.below h1)
 replace HT := hide (HT.out.below h1)
 replace hb := hide (bel_next hb.out h1)
 clear h1
 go_wp2_with (refine load_row_g (by rfl) 30 _ rfl _ rfl _ _ _ k.out Tryz.underlying30 rfl G.1 ?_)
 refine (FW.out _ i1.out i2.out).mono ?_
 rintro e wn ⟨rfl, h1⟩
 replace k := hide (k.out.below h1)
 replace i1 := hide (i1.out.below h1)
 replace i2 := hide (i2.out.below h1)
 replace HT := hide (HT.out.below h1)
 replace hb := hide (bel_next hb.out h1)
 clear h1
 clear FW
 cases F
 ·go_wp2_with fail
  refine (awake _ HT.out).mono ?_
  rintro e wn ⟨rfl, h1⟩
  replace k := hide (k.out.below h1)
  replace i1 := hide (i1.out.below h1)
  replace i2 := hide (i2.out.below h1)
  replace HT := hide (HT.out.below h1)
  replace hb := hide (bel_next hb.out h1)
  clear h1
  go_wp2
  go_ret
  exact ⟨rfl, hb.out⟩
 ·have hF2 := hF.out.symm
  rw [Bool.and_eq_true, Bool.and_eq_true, decide_eq_true_eq] at hF2
  have s1 := hide (few_small i1.out hF2.1.1)
  have s2 := hide (few_small i2.out hF2.1.2)
  have hf : f.size ≤ 1000000 := by omega
  clear hF hF2 hf0
  have hf' := hide hf
  go_wp2_with (refine load_row_g (by rfl) 30 _ rfl _ rfl _ _ _ k.out Tryz.underlying30 rfl G.1 ?_)
  refine (FI.out s1.out s2.out hf _ HT.out i1.out i2.out).mono ?_
  rintro e wn ⟨rfl, h1⟩
  replace k := hide (k.out.below h1)
  replace i1 := hide (i1.out.below h1)
  replace i2 := hide (i2.out.below h1)
  replace HT := hide (HT.out.below h1)
  replace hb := hide (bel_next hb.out h1)
  clear h1
  clear FI
  clear hf
  obtain ⟨four, h4⟩ : ∃ four, decide (v = 4) = four := ⟨_, rfl⟩
  have hX2 := hide hX.out
  unfold vFile at hX2
  rw [h4] at hX2 FO
  clear hX
  obtain ⟨y0, _⟩ := ro_cf k.out 0 _ q0.out
  by_cases v0 : v < 1 ∨ 4 < v
  ·obtain rfl : X = 4 := by rw [hX2.out, if_pos v0]
   by_cases a0 : v < 1
   ·have d0 : decide (v < 1) = true := decide_eq_true a0
    replace v0 := hide v0
    replace a0 := hide a0
    go_wp2
    go_ret
    exact ⟨rfl, hb.out⟩
   ·have d0 : decide (v < 1) = false := decide_eq_false a0
    have d1 : decide (4 < v) = true := decide_eq_true (by omega)
    replace v0 := hide v0
    replace a0 := hide a0
    go_wp2
    go_ret
    exact ⟨rfl, hb.out⟩
  ·have hX := hide (hX2.out.trans (if_neg v0))
   clear hX2
   have u0 : 1 ≤ v := by omega
   have u1 : v ≤ 4 := by omega
   have d0 : decide (v < 1) = false := decide_eq_false (by omega)
   have d1 : decide (4 < v) = false := decide_eq_false (by omega)
   have C1 := hide (fun W h => vd_.Block S A v four 4 4 W rfl (.inl rfl) u0 u1 h4 h s1.out)
   have C2 := hide (fun W h => vd_.Block S' B v four 8 8 W rfl (.inr rfl) u0 u1 h4 h s2.out)
   dsimp only [bkV] at C1 C2
   have hB8 := hide (fun h => (vB_iff B four 8).1 h)
   generalize vB A four 4 = e1 at *
   generalize vB B four 8 = e2 at *
   replace v0 := hide v0
   replace u0 := hide u0
   replace u1 := hide u1
   replace h4 := hide h4
   obtain ⟨y1, _⟩ := ro_cf k.out 1 _ q1.out
   obtain ⟨y2, _⟩ := ro_cf k.out 2 _ q2.out
   obtain ⟨y3, _⟩ := ro_cf k.out 3 _ q3.out
   obtain ⟨y4, _⟩ := ro_cf k.out 4 _ q4.out
   obtain ⟨y5, _⟩ := ro_cf k.out 5 _ q5.out
   obtain ⟨y6, _⟩ := ro_cf k.out 6 _ q6.out
   obtain ⟨y7, _⟩ := ro_cf k.out 7 _ q7.out
   go_wp2_with fail
   refine (C1.out _ i1.out).mono ?_
   rintro e wn ⟨rfl, h1⟩
   replace k := hide (k.out.below h1)
   replace i1 := hide (i1.out.below h1)
   replace i2 := hide (i2.out.below h1)
   replace HT := hide (HT.out.below h1)
   replace hb := hide (bel_next hb.out h1)
   clear h1
   clear C1 y0 y1 y2 y3 y4 y5 y6 y7
   by_cases z1 : e1 = 0
   rotate_left
   ·obtain rfl : X = e1 := by rw [hX.out, if_pos z1]
    have d6 : (X != 0) = true := by simpa using z1
    have d7 : decide (X = 0) = false := decide_eq_false z1
    replace z1 := hide z1
    go_wp2
    go_ret
    exact ⟨retb (by simp), hb.out⟩
   subst z1
   have hX2 := hide (hX.out.trans (if_neg (fun h => h rfl)))
   clear hX
   obtain ⟨y0, _⟩ := ro_cf k.out 0 _ q0.out
   by_cases v1 : v = 1
   ·have hX := hide (hX2.out.trans (if_pos v1))
    clear hX2
    have dv : (v == 1) = true := by simpa using v1
    have dv' : decide (v = 1) = true := decide_eq_true v1
    replace v1 := hide v1
    have EQ := hide (fun W h => r19_.Equal S' ⟨⟨none, 0, 0⟩, ⟨none, 0, 0⟩, ⟨none, 0, 0⟩, ⟨none, 0, 0⟩, ⟨none, 0, 0⟩, ⟨none, 0, 0⟩, ⟨none, 0, 0⟩⟩ B Bk.zero W h (is_nil W))
    rw [← zB_eq] at EQ
    dsimp only [bkV] at EQ
    obtain ⟨ze, hze⟩ : ∃ ze, ze = decide (byt f = []) := ⟨_, rfl⟩
    have hz2 := hz.out
    rw [← hze] at hz2
    obtain ⟨y15, _⟩ := ro_cf k.out 15 _ q15.out
    cases ze
    ·obtain rfl : X = 18 := by rw [hX.out, if_neg (fun h => by rw [decide_eq_true h.1] at hze; cases hze)]
     replace hze := hide hze
     go_wp2
     go_ret
     exact ⟨rfl, hb.out⟩
    have hn := hide (of_decide_eq_true hze.symm)
    replace hze := hide hze
    obtain ⟨y8, _⟩ := ro_cf k.out 8 _ q8.out
    obtain ⟨y9, _⟩ := ro_cf k.out 9 _ q9.out
    obtain ⟨y10, _⟩ := ro_cf k.out 10 _ q10.out
    obtain ⟨y11, _⟩ := ro_cf k.out 11 _ q11.out
    obtain ⟨y12, _⟩ := ro_cf k.out 12 _ q12.out
    obtain ⟨y13, _⟩ := ro_cf k.out 13 _ q13.out
    obtain ⟨y14, _⟩ := ro_cf k.out 14 _ q14.out
    go_wp2_with fail
    refine (EQ.out _ i2.out).mono ?_
    rintro e wn ⟨rfl, h1⟩
    replace k := hide (k.out.below h1)
    replace i1 := hide (i1.out.below h1)
    replace i2 := hide (i2.out.below h1)
    replace HT := hide (HT.out.below h1)
    replace hb := hide (bel_next hb.out h1)
    clear h1
    clear EQ y0 y15 y8 y9 y10 y11 y12 y13 y14
    cases hzb : zB B
    ·obtain rfl : X = 18 := by rw [hX.out, if_neg (fun h => by rw [hzb] at h; exact absurd h.2 (by decide))]
     clear hzb
     go_wp2
     go_ret
     exact ⟨rfl, hb.out⟩
    ·obtain rfl : X = 0 := by rw [hX.out, if_pos ⟨hn.out, hzb⟩]
     clear hzb
     go_wp2
     go_ret
     exact ⟨rfl, hb.out⟩
   ·have hX := hide (hX2.out.trans (if_neg v1))
    clear hX2
    have dv : (v == 1) = false := by simpa using v1
    have dv' : decide (v = 1) = false := decide_eq_false v1
    replace v1 := hide v1
    obtain ⟨y8, _⟩ := ro_cf k.out 8 _ q8.out
    obtain ⟨y9, _⟩ := ro_cf k.out 9 _ q9.out
    obtain ⟨y10, _⟩ := ro_cf k.out 10 _ q10.out
    obtain ⟨y11, _⟩ := ro_cf k.out 11 _ q11.out
    obtain ⟨y12, _⟩ := ro_cf k.out 12 _ q12.out
    obtain ⟨y13, _⟩ := ro_cf k.out 13 _ q13.out
    obtain ⟨y14, _⟩ := ro_cf k.out 14 _ q14.out
    go_wp2_with fail
    refine (C2.out _ i2.out).mono ?_
    rintro e wn ⟨rfl, h1⟩
    replace k := hide (k.out.below h1)
    replace i1 := hide (i1.out.below h1)
    replace i2 := hide (i2.out.below h1)
    replace HT := hide (HT.out.below h1)
    replace hb := hide (bel_next hb.out h1)
    clear h1
    clear C2 y0 y8 y9 y10 y11 y12 y13 y14
    by_cases z1 : e2 = 0
    rotate_left
    ·obtain rfl : X = e2 := by rw [hX.out, if_pos z1]
     have d6 : (X != 0) = true := by simpa using z1
     have d7 : decide (X = 0) = false := decide_eq_false z1
     replace z1 := hide z1
     go_wp2
     go_ret
     exact ⟨retb (by simp), hb.out⟩
    subst z1
    have hX2 := hide (hX.out.trans (if_neg (fun h => h rfl)))
    clear hX
    have hB := hide (hB8.out rfl)
    have sh := vF_shape (byt f) v B
    generalize vF (byt f) v B = p at *
    obtain ⟨p1, p2⟩ := p
    dsimp only at sh hX2 FO
    obtain rfl : X = p1 := hX2.out
    clear hX2
    rw [len_byt] at sh
    replace sh := hide sh
    go_wp2_with (refine load_row_g (by rfl) 30 _ rfl _ rfl _ _ _ k.out Tryz.underlying30 rfl G.1 ?_)
    refine (FO.out s2.out hf'.out _ HT.out i2.out (fun _ => hB.out)).mono ?_
    rintro e wn ⟨rfl, h1⟩
    replace k := hide (k.out.below h1)
    replace i1 := hide (i1.out.below h1)
    replace i2 := hide (i2.out.below h1)
    replace HT := hide (HT.out.below h1)
    replace hb := hide (bel_next hb.out h1)
    clear h1
    clear FO
    obtain ⟨y15, _⟩ := ro_cf k.out 15 _ q15.out
    rcases sh.out with ⟨rfl, a0, a1⟩ | ⟨a0, rfl⟩
    ·have d1 : decide (0 ≤ p2) = true := decide_eq_true a0
     have d2 : decide (p2 ≤ (f.size : Int)) = true := decide_eq_true a1
     replace a0 := hide a0
     replace a1 := hide a1
     go_wp2
     go_ret
     exact ⟨rfl, hb.out⟩
    ·have d1 : (X == 14) = false := by simpa using a0
     have d2 : decide (X = 14) = false := decide_eq_false a0
     replace a0 := hide a0
     go_wp2
     go_ret
     exact ⟨retb (by simp), hb.out⟩
end l20_
end Go.Proofs.YtbehflfpdkedgaaGreatDoor
