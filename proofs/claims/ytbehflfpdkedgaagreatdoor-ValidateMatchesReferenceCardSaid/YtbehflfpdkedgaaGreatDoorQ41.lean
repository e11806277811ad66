/-
  Texts of mine in one file: Ref9h, Ref20f. Their conditions stand in the theorems.
-/
import Derived.Test.YtbehflfpdkedgaaGreatDoorQ40
import Derived.Test.YtbehflfpdkedgaaGreatDoorQ07
import Derived.Test.YtbehflfpdkedgaaGreatDoorQ15
import Derived.Test.YtbehflfpdkedgaaGreatDoorQ11
import Derived.Test.YtbehflfpdkedgaaGreatDoorQ25
import Derived.Test.YtbehflfpdkedgaaGreatDoorQ09
import Derived.Test.YtbehflfpdkedgaaGreatDoorQ34
import Derived.Deep.RegionHeld3
import Derived.Deep.DeepCutAuto
namespace Go.Proofs.YtbehflfpdkedgaaGreatDoor
set_option linter.unusedVariables false
set_option linter.unusedSimpArgs false
set_option maxRecDepth 100000
set_option maxHeartbeats 16000000
open Go.ChangeShapes Go.WideShapes Go.ChangeAt Go.RowKit
namespace r9_
theorem Parse (s : ByteArray) (w : World) (hs : s.size ≤ 1000000) : Calls Tryz.prog 34 #[.string s] w fun e w' => e = .returned (ptRes (ptParse (byt s))) ∧ Below w.heap.size w w' := by
 obtain ⟨R, hR⟩ : ∃ R, ptRes (ptParse (byt s)) = R := ⟨_, rfl⟩
 rw [hR]
 unfold ptParse at hR
 rcases hA : tnParse (byt s) with _ | ⟨std, n⟩
 ·rw [hA] at hR
  rw [← hR]
  exact Parse_0 s w hs hA
 rw [hA] at hR
 simp only at hR
 obtain ⟨hns, hn, hn3, _⟩ := tnParse_some hA
 rw [len_byt] at hn
 rcases hB : hmsParse ((byt s).drop n) with _ | ⟨v, m⟩
 ·rw [hB] at hR
  rw [← hR]
  exact Parse_1 s w hs std n hA hn hB
 rw [hB] at hR
 simp only at hR
 obtain ⟨hm1, hm, hv0, hv1, _⟩ := parse_prefix hB
 rw [List.length_drop, len_byt] at hm
 rcases Decidable.em (¬ offOk v) with ho | ho
 ·rw [if_neg ho] at hR
  rw [← hR]
  exact Parse_2 s w hs std n hA hn v m hB (by omega) hv0 hv1 (decide_eq_false ho)
 replace ho := Decidable.not_not.1 ho
 rw [if_pos ho] at hR
 have hso : offOk (-v) := by unfold offOk at *; omega
 rw [len_byt] at hR
 by_cases he : n + m = s.size
 ·rw [if_pos he] at hR
  rw [← hR]
  exact Parse_3 s w hs std n hA hn v m hB (by omega) hv0 hv1 (decide_eq_true ho) he
 rw [if_neg he] at hR
 rcases hC : tnParse ((byt s).drop (n + m)) with _ | ⟨dst, n2⟩
 ·rw [hC] at hR
  rw [← hR]
  exact Parse_4 s w hs std n hA hn v m hB (by omega) hv0 hv1 (decide_eq_true ho) (by omega) hC
 rw [hC] at hR
 simp only at hR
 obtain ⟨hnd, hn2, hn23, _⟩ := tnParse_some hC
 rw [List.length_drop, len_byt] at hn2
 rcases hE : hmsParse ((byt s).drop (n + m + n2)) with _ | ⟨v2, m2⟩
 ·rw [hE] at hR
  exact Parse_6 s w hs std n hA hn v m hB (by omega) hv0 hv1 (decide_eq_true ho) dst n2 hC (by omega) (by omega) hE hns hso hnd R hR
 rw [hE] at hR
 simp only at hR
 obtain ⟨hm21, hm2, hv20, hv21, _⟩ := parse_prefix hE
 rw [List.length_drop, len_byt] at hm2
 by_cases ho2 : offOk v2
 ·rw [if_pos ho2] at hR
  exact Parse_7 s w hs std n hA hn v m hB (by omega) hv0 hv1 (decide_eq_true ho) dst n2 hC (by omega) (by omega) v2 m2 hE (by omega) hv20 hv21 (decide_eq_true ho2) hns hso hnd R hR
 ·rw [if_neg ho2] at hR
  rw [← hR]
  exact Parse_5 s w hs std n hA hn v m hB (by omega) hv0 hv1 (decide_eq_true ho) dst n2 hC (by omega) (by omega) v2 m2 hE (by omega) hv20 hv21 (decide_eq_false ho2)
end r9_
namespace r20_
theorem Footer (v : Int) (S S' : BkS) (f : ByteArray) (B : Bk) (four : Bool) (w : World) (h : IsBk w S' B) (hs : S'.small) (hf : f.size ≤ 1000000) (hB : BOk B four 8) :
 Calls Tryz.prog 17 #[.agg (flA v S S' f)] w fun e w' => e = .returned (.tuple #[.int .i64 (vF (byt f) v B).1, .int .i64 (vF (byt f) v B).2]) ∧ Below w.heap.size w w' := by
 have R := hide (fun W (hb : Below w.heap.size w W) => h.below hb)
 have hL := hide (fun hn => hB.last h.ok hn)
 have hlpok := hide h.ok.lp
 have hl := h.lens
 clear h hB
 have G := gr_file v S S' f
 obtain ⟨⟨A0, n0, c0⟩, ⟨A1, n1, c1⟩, ⟨A2, n2, c2⟩, ⟨A3, n3, c3⟩, ⟨A4, n4, c4⟩, ⟨A5, n5, c5⟩, ⟨A6, n6, c6⟩⟩ := S'
 dsimp only at hl R
 obtain ⟨l0, l1, l2, l3, l4, l5, l6⟩ := hl
 obtain ⟨s0, s1, s2, s3, s4, s5, s6⟩ := hs
 dsimp only at s0 s1 s2 s3 s4 s5 s6
 replace l0 := hide l0
 replace l1 := hide l1
 replace l2 := hide l2
 replace l3 := hide l3
 clear l4 l5 l6
 obtain ⟨cs, hcs⟩ : ∃ cs, cs = flA v S ⟨⟨A0, n0, c0⟩, ⟨A1, n1, c1⟩, ⟨A2, n2, c2⟩, ⟨A3, n3, c3⟩, ⟨A4, n4, c4⟩, ⟨A5, n5, c5⟩, ⟨A6, n6, c6⟩⟩ f := ⟨_, rfl⟩
 have q0 := hide (show cs[0]? = some (.int .i64 v) by rw [hcs]; rfl)
 have q8 := hide (show cs[8]? = some (.slice A0 n0 c0) by rw [hcs]; rfl)
 have q9 := hide (show cs[9]? = some (.slice A1 n1 c1) by rw [hcs]; rfl)
 have q10 := hide (show cs[10]? = some (.slice A2 n2 c2) by rw [hcs]; rfl)
 have q11 := hide (show cs[11]? = some (.slice A3 n3 c3) by rw [hcs]; rfl)
 have q12 := hide (show cs[12]? = some (.slice A4 n4 c4) by rw [hcs]; rfl)
 have q13 := hide (show cs[13]? = some (.slice A5 n5 c5) by rw [hcs]; rfl)
 have q14 := hide (show cs[14]? = some (.slice A6 n6 c6) by rw [hcs]; rfl)
 have q15 := hide (show cs[15]? = some (.string f) by rw [hcs]; rfl)
 rw [← hcs] at G ⊢
 clear hcs
 have P := hide (fun w => r9_.Parse f w hf)
 obtain ⟨X, hX⟩ : ∃ X, X = (vF (byt f) v B).1 := ⟨_, rfl⟩
 obtain ⟨Y, hY⟩ : ∃ Y, Y = (vF (byt f) v B).2 := ⟨_, rfl⟩
 rw [← hX, ← hY]
 have hfe := byt_nil f
 have k3 := hide (Ro.new w cs 30)
 have hb := hide (bl_new w (.cells cs 30))
 by_cases e0 : byt f = []
 ·rw [decide_eq_true e0] at hfe
  obtain rfl : X = 0 := by rw [hX]; unfold vF; rw [if_pos e0]
  obtain rfl : Y = 0 := by rw [hY]; unfold vF; rw [if_pos e0]
  clear hX hY e0
  go_enter Tryz.func17, Tryz.ntmps17
  go_upto_region 1 with fail
  generalize (w.alloc (.cells cs 30)) = u at *
  obtain ⟨y15, _⟩ := ro_cf k3.out 15 _ q15.out
  go_wp2_with fail
  go_ret2
  exact ⟨rfl, hb.out⟩
 rw [decide_eq_false e0] at hfe
 rcases hr : ptParse (byt f) with a | r
 ·rw [hr] at P
  simp only [ptRes, vrule_c] at P
  have G2 := gr_rule ⟨#[]⟩ 0 false ⟨#[]⟩ 0 rd0 rd0
  generalize crule ⟨#[]⟩ 0 false ⟨#[]⟩ 0 rd0 rd0 = rs at *
  obtain rfl : X = 14 := by rw [hX]; unfold vF; rw [if_neg e0, hr]
  obtain rfl : Y = (a : Int) := by rw [hY]; unfold vF; rw [if_neg e0, hr]
  clear hr hX hY e0
  go_enter Tryz.func17, Tryz.ntmps17
  go_upto_region 1 with fail
  generalize (w.alloc (.cells cs 30)) = u at *
  obtain ⟨y15, _⟩ := ro_cf k3.out 15 _ q15.out
  go_wp2_with fail
  refine (P.out _).mono ?_
  rintro e w1 ⟨rfl, h1⟩
  replace hb := hide (bl_alloc (bel_next hb.out h1) (.cells rs 51))
  clear h1 y15 k3
  go_wp2_with (first | (refine wpList_store_row rfl 51 _ _ rfl _ _ rfl rfl _ _ (heap_alloc_last _ _) G2.1 (by rw [G2.2.1]; rfl) G2.2.2 ?_; rw [World.setRow_alloc_new]))
  go_ret2
  exact ⟨rfl, hb.out⟩
 have hok := ptParse_ok hr
 rw [hr] at P
 replace hX : X = vFr r v B := by rw [hX]; unfold vF; rw [if_neg e0, hr]
 obtain rfl : Y = 0 := by rw [hY]; unfold vF; rw [if_neg e0, hr]
 clear hr hY e0
 have E := hide (fun w => r10_.Extended (mkS r.1) r.2.1 r.2.2.1 (mkS r.2.2.2.1) r.2.2.2.2.1 r.2.2.2.2.2.1 r.2.2.2.2.2.2 w)
 rw [vrule_c] at E
 have AT := hide (fun t h0 h1 w => show Calls Tryz.prog 38 #[.agg (crule (mkS r.1) r.2.1 r.2.2.1 (mkS r.2.2.2.1) r.2.2.2.2.1 r.2.2.2.2.2.1 r.2.2.2.2.2.2), .int .i64 t] w fun e w' => e = .returned (.agg #[.bool true, .int .i64 (if onB r t then r.2.2.2.2.1 else r.2.1), .bool (onB r t), .string (if onB r t then mkS r.2.2.2.1 else mkS r.1)]) ∧ Below w.heap.size w w' from
  r11_.At (mkS r.1) r.2.1 r.2.2.1 (mkS r.2.2.2.1) r.2.2.2.2.1 r.2.2.2.2.2.1 r.2.2.2.2.2.2 t (onB r t) w h0 h1 (RvOk.of hok) (onB_iff r t))
 simp only [ptRes, vrule_c] at P
 have G2 := gr_rule (mkS r.1) r.2.1 r.2.2.1 (mkS r.2.2.2.1) r.2.2.2.2.1 r.2.2.2.2.2.1 r.2.2.2.2.2.2
 unfold vFr at hX
 obtain ⟨ex, hex⟩ : ∃ ex, ex = exR r := ⟨_, rfl⟩
 rw [← hex] at hX
 unfold exR at hex
 rw [← hex] at E
 have hag := hide (show agB r B = sameR (onB r (satM (lastT B) (cr B.lp (lastT B)))) r.2.1 r.2.2.2.2.1 (mkS r.1) (mkS r.2.2.2.1) (lastX B) (bS (nameL B.ch (lastX B).2.2.toNat)) from rfl)
 generalize crule (mkS r.1) r.2.1 r.2.2.1 (mkS r.2.2.2.1) r.2.2.2.2.1 r.2.2.2.2.2.1 r.2.2.2.2.2.2 = rs at *
 obtain ⟨g16, hg16⟩ : ∃ g, g = (decide (v = 2) && ex) := ⟨_, rfl⟩
 have hd2 : v = 2 → decide (v = 2) = true := fun h => decide_eq_true h
 have hd2' : v ≠ 2 → decide (v = 2) = false := fun h => decide_eq_false h
 replace hX := hide hX
 replace hd2 := hide hd2
 replace hd2' := hide hd2'
 replace hg16 := hide hg16
 clear hok hex
 go_enter Tryz.func17, Tryz.ntmps17
 go_upto_region 1 with fail
 generalize (w.alloc (.cells cs 30)) = u at *
 obtain ⟨y15, _⟩ := ro_cf k3.out 15 _ q15.out
 go_wp2_with fail
 refine (P.out _).mono ?_
 rintro e w1 ⟨rfl, h1⟩
 have k4 := hide (Ro.new w1 rs 51)
 replace hb := hide (bl_alloc (bel_next hb.out h1) (.cells rs 51))
 replace k3 := hide ((k3.out.below h1).alloc (.cells rs 51))
 clear h1 y15 P
 go_upto_region 4 with (first | (refine wpList_store_row rfl 51 _ _ rfl _ _ rfl rfl _ _ (heap_alloc_last _ _) G2.1 (by rw [G2.2.1]; rfl) G2.2.2 ?_; rw [World.setRow_alloc_new]))
 generalize w1.heap.size = gb at *
 generalize (w1.alloc (.cells rs 51)) = u1 at *
 go_upto_region 6 with fail
 go_cut [29] (fun s29 wz => s29 = .bool g16 ∧ Hid (Ro wz w.heap.size cs 30) ∧ Hid (Ro wz gb rs 51) ∧ Hid (Below w.heap.size w wz))
 case first =>
  obtain ⟨y0, _⟩ := ro_cf k3.out 0 _ q0.out
  by_cases hv : v = 2
  ·subst hv
   go_wp2_with (refine load_row_g (by rfl) 51 _ rfl _ rfl _ _ _ k4.out Tryz.underlying51 rfl G2.1 ?_)
   refine (E.out _).mono ?_
   rintro e w2 ⟨rfl, h1⟩
   clear y0
   go_wp2_with fail
   go_meet
   exact ⟨by rw [hg16.out]; simp, hide (k3.out.below h1), hide (k4.out.below h1), hide (bel_next hb.out h1)⟩
  ·have d2 := hd2'.out hv
   have d3 : (v == 2) = false := by simpa using hv
   replace hv := hide hv
   go_wp2_with fail
   go_meet
   exact ⟨by rw [hg16.out, d2]; rfl, k3, k4, hb⟩
 case rest =>
  clear k3 k4 hb
  obtain ⟨rfl, k3, k4, hb⟩ := hcut
  cases g16
  rotate_left
  ·obtain rfl : X = 16 := by
    have h := hg16.out.symm
    rw [Bool.and_eq_true, decide_eq_true_eq] at h
    rw [hX.out, if_pos h]
   go_wp2
   go_ret2
   exact ⟨rfl, hb.out⟩
  have hX2 := hide (show X = if B.ti.length = 0 then 0 else if agB r B = true then 0 else 15 from by
   have h := hg16.out.symm
   rw [hX.out, if_neg (fun q => by rw [decide_eq_true q.1, q.2] at h; cases h)])
  rw [l0.out] at hX2
  clear hX hg16 E hd2 hd2'
  obtain ⟨y8, _⟩ := ro_cf k3.out 8 _ q8.out
  by_cases hz : n0 = 0
  ·obtain rfl : X = 0 := by rw [hX2.out, if_pos hz]
   have z1 : ((n0 : Int) == 0) = true := by simp; omega
   have z2 : decide ((n0 : Int) = 0) = true := by simp; omega
   have z3 : decide (n0 = 0) = true := by simp; omega
   replace hz := hide hz
   go_wp2_with fail
   go_ret2
   exact ⟨rfl, hb.out⟩
  ·have z1 : ((n0 : Int) == 0) = false := by simp; omega
   have z2 : decide ((n0 : Int) = 0) = false := by simp; omega
   have z3 : decide (n0 = 0) = false := by simp; omega
   have hX := hide (hX2.out.trans (if_neg hz))
   obtain ⟨j, q, e1, e2, e3, hj, hq, hqc, hli, htt, hT⟩ := hL.out (by rw [l0.out]; exact hz)
   rw [l0.out] at e1 e2 hli
   rw [l1.out] at hli
   rw [l3.out] at hqc
   rw [l2.out] at hj
   have hag2 := hide (hag.out)
   rw [hq, Int.toNat_natCast] at hag2
   unfold sameR at hag2
   obtain ⟨P, hP⟩ : ∃ P, P = n0 - 1 := ⟨_, rfl⟩
   rw [← hP] at e1 e2
   have p0 : P < n0 := by omega
   have p1 : P < n1 := by omega
   clear hli
   have i1 : IntKind.i64.wrap ((n0 : Int) - 1) = (P : Int) := by rw [IntKind.wrap_i64]; omega
   have hcb := cr_bd hlpok.out (lastT B)
   have hj1 := (R.out _ (bl_refl _)).ok.ix.mem _ (List.mem_of_getElem? e2)
   obtain ⟨ad0, a0, x0⟩ := (R.out _ hb.out).ti.int p0
   rw [e1] at x0
   obtain ⟨ad1, a1, _⟩ := (R.out _ hb.out).ix.int p1
   subst a0
   subst a1
   have xq := hide (fun W (h : IsBk W ⟨⟨some ad0, n0, c0⟩, ⟨some ad1, n1, c1⟩, ⟨A2, n2, c2⟩, ⟨A3, n3, c3⟩, ⟨A4, n4, c4⟩, ⟨A5, n5, c5⟩, ⟨A6, n6, c6⟩⟩ B) => show W.cell? (ad1.add P) = some (.int .u8 j) from by
    obtain ⟨ad, ea, hx⟩ := h.ix.int p1
    cases ea
    rw [e2] at hx
    exact hx)
   have i2 : IntKind.i64.wrap (j : Int) = (j : Int) := by rw [IntKind.wrap_i64]; omega
   have CR := hide (fun w h => r17_.Correction A4 n4 c4 B.lp (lastT B) w (by omega) h hlpok.out)
   have MN := hide (fun w => Minus (lastT B) (cr B.lp (lastT B)) w hT.1 hT.2 hcb.1 hcb.2)
   have AT2 := hide (fun w => AT.out (satM (lastT B) (cr B.lp (lastT B))) (satM_bd hT.1 hT.2).1 (satM_bd hT.1 hT.2).2 w)
   have TR := hide (fun w h => TypeResult ⟨⟨some ad0, n0, c0⟩, ⟨some ad1, n1, c1⟩, ⟨A2, n2, c2⟩, ⟨A3, n3, c3⟩, ⟨A4, n4, c4⟩, ⟨A5, n5, c5⟩, ⟨A6, n6, c6⟩⟩ B j q (lastX B) w h e3 hq hqc (by dsimp only; omega))
   dsimp only [tres, bkV] at TR
   have NE := hide (fun w => neR w (if onB r (satM (lastT B) (cr B.lp (lastT B))) then r.2.2.2.2.1 else r.2.1) (lastX B).1 (onB r (satM (lastT B) (cr B.lp (lastT B)))) (lastX B).2.1 (if onB r (satM (lastT B) (cr B.lp (lastT B))) then mkS r.2.2.2.1 else mkS r.1) (bS (nameL B.ch q)))
   rw [← hag2.out] at NE
   have iB := hide (R.out _ hb.out)
   clear hag hag2 AT hq hj hqc hcb htt e1 e2 e3 hj1 hX2 hL hP hlpok
   generalize agB r B = ag at *
   generalize (if onB r (satM (lastT B) (cr B.lp (lastT B))) then r.2.2.2.2.1 else r.2.1) = o1 at *
   generalize (if onB r (satM (lastT B) (cr B.lp (lastT B))) then mkS r.2.2.2.1 else mkS r.1) = s1 at *
   generalize onB r (satM (lastT B) (cr B.lp (lastT B))) = b1 at *
   generalize satM (lastT B) (cr B.lp (lastT B)) = U at *
   generalize cr B.lp (lastT B) = C at *
   generalize lastT B = T at *
   generalize bS (nameL B.ch q) = nm at *
   obtain ⟨t1, ht1⟩ : ∃ t, t = (lastX B).1 := ⟨_, rfl⟩
   obtain ⟨t2, ht2⟩ : ∃ t, t = (lastX B).2.1 := ⟨_, rfl⟩
   rw [← ht1, ← ht2] at NE TR
   clear ht1 ht2 hT
   replace hz := hide hz
   have AT := AT2
   clear AT2
   go_upto_region 12 with fail
   obtain ⟨y12, _⟩ := ro_cf k3.out 12 _ q12.out
   go_wp2_with fail
   refine (CR.out _ iB.out.lp).mono ?_
   rintro e w3 ⟨rfl, h1⟩
   replace k3 := hide (k3.out.below h1)
   replace k4 := hide (k4.out.below h1)
   replace iB := hide (iB.out.below h1)
   replace hb := hide (bel_next hb.out h1)
   clear h1 CR y12 y8 x0
   go_wp2_with fail
   refine (MN.out _).mono ?_
   rintro e w4 ⟨rfl, rfl⟩
   clear MN
   go_upto_region 13 with fail
   have NE2 := NE.out
   clear NE
   refine wp_region_held_drew (S := fun w' => Hid (Ro w' w.heap.size (cs) 30) ∧ Hid (Ro w' gb (rs) 51) ∧ Hid (IsBk w' ⟨⟨some ad0, n0, c0⟩, ⟨some ad1, n1, c1⟩, ⟨A2, n2, c2⟩, ⟨A3, n3, c3⟩, ⟨A4, n4, c4⟩, ⟨A5, n5, c5⟩, ⟨A6, n6, c6⟩⟩ B) ∧ Hid (Below w.heap.size w w')) (by kernel_rfl) (⟨hide k3.out.drew, hide k4.out.drew, hide iB.out.drew, hide (bl_drew hb.out)⟩) (fun hHeld => ?_)
   refine wpAnyH_takeD (i := 0) (d := some 50) rfl rfl (by kernel_rfl) (by kernel_rfl) (by kernel_rfl) (fun _ _ _ h => h) (yieldsIf_load_row (by rfl) 51 _ rfl gb rfl 51 rs _ (fun w hw => hw.2.1.out) Tryz.underlying51 rfl G2.1) (by assumption) ?_
   try simp only [Act.put, sI1, sI2, sI3]
   refine wpAnyH_takeD (i := 1) (d := some 51) (v := ?_) rfl rfl (by kernel_rfl) (by kernel_rfl) (by kernel_rfl) (fun _ _ _ h => h) (Or.inl ⟨by rfl, ?_⟩) (by assumption) ?_
   rotate_left
   ·((intro w hSw; go_simp) <;> with_reducible rfl)
   try simp only [Act.put, sI1, sI2, sI3]
   refine wpAnyH_takeD (i := 3) (d := some 53) (v := ?_) rfl rfl (by kernel_rfl) (by kernel_rfl) (by kernel_rfl) (fun _ _ _ h => h) (Or.inl ⟨by rfl, ?_⟩) (by assumption) ?_
   rotate_left
   ·((intro w hSw; go_simp) <;> with_reducible rfl)
   try simp only [Act.put, sI1, sI2, sI3]
   refine wpAnyH_takeD (i := 4) (d := some 54) (v := ?_) rfl rfl (by kernel_rfl) (by kernel_rfl) (by kernel_rfl) (fun _ _ _ h => h) (Or.inl ⟨by rfl, ?_⟩) (by assumption) ?_
   rotate_left
   ·((intro w hSw; obtain ⟨y8, _⟩ := ro_cf hSw.1.out 8 _ q8.out; obtain ⟨y9, _⟩ := ro_cf hSw.1.out 9 _ q9.out; obtain ⟨y10, _⟩ := ro_cf hSw.1.out 10 _ q10.out; obtain ⟨y11, _⟩ := ro_cf hSw.1.out 11 _ q11.out; obtain ⟨y12, _⟩ := ro_cf hSw.1.out 12 _ q12.out; obtain ⟨y13, _⟩ := ro_cf hSw.1.out 13 _ q13.out; obtain ⟨y14, _⟩ := ro_cf hSw.1.out 14 _ q14.out; go_simp) <;> with_reducible rfl)
   try simp only [Act.put, sI1, sI2, sI3]
   refine wpAnyH_takeD (i := 5) (d := some 55) (v := ?_) rfl rfl (by kernel_rfl) (by kernel_rfl) (by kernel_rfl) (fun _ _ _ h => h) (Or.inl ⟨by rfl, ?_⟩) (by assumption) ?_
   rotate_left
   ·((intro w hSw; go_simp) <;> with_reducible rfl)
   try simp only [Act.put, sI1, sI2, sI3]
   refine wpAnyH_takeD (i := 6) (d := some 56) (v := ?_) rfl rfl (by kernel_rfl) (by kernel_rfl) (by kernel_rfl) (fun _ _ _ h => h) (Or.inl ⟨by rfl, ?_⟩) (by assumption) ?_
   rotate_left
   ·((intro w hSw; go_simp) <;> with_reducible rfl)
   try simp only [Act.put, sI1, sI2, sI3]
   refine wpAnyH_takeD (i := 7) (d := some 57) (v := ?_) rfl rfl (by kernel_rfl) (by kernel_rfl) (by kernel_rfl) (fun _ _ _ h => h) (Or.inl ⟨by rfl, ?_⟩) (by assumption) ?_
   rotate_left
   ·((intro w hSw; obtain ⟨y9, _⟩ := ro_cf hSw.1.out 9 _ q9.out; go_simp) <;> with_reducible rfl)
   try simp only [Act.put, sI1, sI2, sI3]
   refine wpAnyH_takeD (i := 8) (d := some 58) (v := ?_) rfl rfl (by kernel_rfl) (by kernel_rfl) (by kernel_rfl) (fun _ _ _ h => h) (Or.inl ⟨by rfl, ?_⟩) (by assumption) ?_
   rotate_left
   ·((intro w hSw; go_simp) <;> with_reducible rfl)
   try simp only [Act.put, sI1, sI2, sI3]
   refine wpAnyH_takeD (i := 9) (d := some 59) (v := ?_) rfl rfl (by kernel_rfl) (by kernel_rfl) (by kernel_rfl) (fun _ _ _ h => h) (Or.inl ⟨by rfl, ?_⟩) (by assumption) ?_
   rotate_left
   ·((intro w hSw; go_simp) <;> with_reducible rfl)
   try simp only [Act.put, sI1, sI2, sI3]
   refine wpAnyH_takeD (i := 10) (d := some 60) (v := ?_) rfl rfl (by kernel_rfl) (by kernel_rfl) (by kernel_rfl) (fun _ _ _ h => h) (Or.inl ⟨by rfl, ?_⟩) (by assumption) ?_
   rotate_left
   ·((intro w hSw; go_simp) <;> with_reducible rfl)
   try simp only [Act.put, sI1, sI2, sI3]
   refine wpAnyH_takeD (i := 11) (d := some 61) (v := ?_) rfl rfl (by kernel_rfl) (by kernel_rfl) (by kernel_rfl) (fun _ _ _ h => h) (Or.inl ⟨by rfl, ?_⟩) (by assumption) ?_
   rotate_left
   ·((intro w hSw; have y1 := xq.out _ hSw.2.2.1.out; go_simp) <;> with_reducible rfl)
   try simp only [Act.put, sI1, sI2, sI3]
   refine wpAnyH_takeD (i := 12) (d := some 62) (v := ?_) rfl rfl (by kernel_rfl) (by kernel_rfl) (by kernel_rfl) (fun _ _ _ h => h) (Or.inl ⟨by rfl, ?_⟩) (by assumption) ?_
   rotate_left
   ·((intro w hSw; go_simp) <;> with_reducible rfl)
   try simp only [Act.put, sI1, sI2, sI3]
   refine wpAnyH_ready (rs := [2]) (by kernel_rfl) (by simp) ?_
   refine AllReadyH.cons rfl (fun K hK => ?_) AllReadyH.nil
   go_simp
   refine (AT.out _).mono ?_
   rintro e w6 ⟨rfl, h1'⟩
   refine hK.out _ _ (⟨hide (hHeld.1.out.below h1'), hide (hHeld.2.1.out.below h1'), hide (hHeld.2.2.1.out.below h1'), hide (bel_next hHeld.2.2.2.out h1')⟩) (fun hHeld => ?_)
   clear hK K h1'
   try simp only [Act.put, sI1, sI2, sI3]
   refine wpAnyH_ready (rs := [13]) (by kernel_rfl) (by simp) ?_
   refine AllReadyH.cons rfl (fun K hK => ?_) AllReadyH.nil
   go_simp
   refine (TR.out _ hHeld.2.2.1.out).mono ?_
   rintro e w6 ⟨rfl, h1'⟩
   refine hK.out _ _ (⟨hide (hHeld.1.out.below h1'), hide (hHeld.2.1.out.below h1'), hide (hHeld.2.2.1.out.below h1'), hide (bel_next hHeld.2.2.2.out h1')⟩) (fun hHeld => ?_)
   clear hK K h1'
   try simp only [Act.put, sI1, sI2, sI3]
   refine wpAnyH_takeD (i := 14) (d := some 64) (v := ?_) rfl rfl (by kernel_rfl) (by kernel_rfl) (by kernel_rfl) (fun _ _ _ h => h) (Or.inl ⟨by rfl, ?_⟩) (by assumption) ?_
   rotate_left
   ·((intro w hSw; go_simp) <;> with_reducible rfl)
   try simp only [Act.put, sI1, sI2, sI3]
   refine wpAnyH_done (by kernel_rfl) ?_ _
   cases ag
   ·obtain rfl : X = 15 := by rw [hX.out]; rfl
    go_wp2_with fail
    go_ret2
    exact ⟨rfl, hHeld.2.2.2.out⟩
   ·obtain rfl : X = 0 := by rw [hX.out]; rfl
    go_wp2_with fail
    go_ret2
    exact ⟨rfl, hHeld.2.2.2.out⟩
theorem File (v : Int) (S S' : BkS) (f : ByteArray) (A B : Bk) (w : World) (h : IsBk w S A) (h' : IsBk w S' B) (hs : S.small) (hs' : S'.small) (hf : f.size ≤ 1000000) :
 Calls Tryz.prog 15 #[.agg (flA v S S' f)] w fun e w' => e = .returned (.int .i64 (vFile v A B (byt f))) ∧ Below w.heap.size w w' := by
 have R1 := hide (fun W (hb : Below w.heap.size w W) => h.below hb)
 have R2 := hide (fun W (hb : Below w.heap.size w W) => h'.below hb)
 have hok := hide h'.ok
 clear h h'
 have G := gr_file v S S' f
 obtain ⟨four, hfour⟩ : ∃ four, decide (v = 4) = four := ⟨_, rfl⟩
 have B1 := hide (fun W h0 h1 h => Block S A v four 4 4 W rfl (.inl rfl) h0 h1 hfour h hs)
 have B2 := hide (fun W h0 h1 h => Block S' B v four 8 8 W rfl (.inr rfl) h0 h1 hfour h hs')
 have FT := hide (fun W h hB => Footer v S S' f B four W h hs' hf hB)
 have EQ := hide (fun W h hz => r19_.Equal S' ⟨⟨none, 0, 0⟩, ⟨none, 0, 0⟩, ⟨none, 0, 0⟩, ⟨none, 0, 0⟩, ⟨none, 0, 0⟩, ⟨none, 0, 0⟩, ⟨none, 0, 0⟩⟩ B Bk.zero W h hz)
 obtain ⟨X, hX⟩ : ∃ X, X = vFile v A B (byt f) := ⟨_, rfl⟩
 rw [← hX]
 unfold vFile at hX
 rw [hfour] at hX
 replace hX := hide hX
 have hz := byt_nil f
 obtain ⟨ze, hze⟩ : ∃ ze, ze = decide (byt f = []) := ⟨_, rfl⟩
 rw [← hze] at hz
 replace hze := hide hze
 have zb := hide (zB_eq B)
 obtain ⟨⟨A0, n0, c0⟩, ⟨A1, n1, c1⟩, ⟨A2, n2, c2⟩, ⟨A3, n3, c3⟩, ⟨A4, n4, c4⟩, ⟨A5, n5, c5⟩, ⟨A6, n6, c6⟩⟩ := S
 obtain ⟨⟨xA0, xn0, xc0⟩, ⟨xA1, xn1, xc1⟩, ⟨xA2, xn2, xc2⟩, ⟨xA3, xn3, xc3⟩, ⟨xA4, xn4, xc4⟩, ⟨xA5, xn5, xc5⟩, ⟨xA6, xn6, xc6⟩⟩ := S'
 dsimp only [bkV] at B1 B2 EQ R1 R2 FT
 obtain ⟨cs, hcs⟩ : ∃ cs, cs = flA v ⟨⟨A0, n0, c0⟩, ⟨A1, n1, c1⟩, ⟨A2, n2, c2⟩, ⟨A3, n3, c3⟩, ⟨A4, n4, c4⟩, ⟨A5, n5, c5⟩, ⟨A6, n6, c6⟩⟩ ⟨⟨xA0, xn0, xc0⟩, ⟨xA1, xn1, xc1⟩, ⟨xA2, xn2, xc2⟩, ⟨xA3, xn3, xc3⟩, ⟨xA4, xn4, xc4⟩, ⟨xA5, xn5, xc5⟩, ⟨xA6, xn6, xc6⟩⟩ f := ⟨_, rfl⟩
 have q0 := hide (show cs[0]? = some (.int .i64 v) by rw [hcs]; rfl)
 have q1 := hide (show cs[1]? = some (.slice A0 n0 c0) by rw [hcs]; rfl)
 have q2 := hide (show cs[2]? = some (.slice A1 n1 c1) by rw [hcs]; rfl)
 have q3 := hide (show cs[3]? = some (.slice A2 n2 c2) by rw [hcs]; rfl)
 have q4 := hide (show cs[4]? = some (.slice A3 n3 c3) by rw [hcs]; rfl)
 have q5 := hide (show cs[5]? = some (.slice A4 n4 c4) by rw [hcs]; rfl)
 have q6 := hide (show cs[6]? = some (.slice A5 n5 c5) by rw [hcs]; rfl)
 have q7 := hide (show cs[7]? = some (.slice A6 n6 c6) by rw [hcs]; rfl)
 have q8 := hide (show cs[8]? = some (.slice xA0 xn0 xc0) by rw [hcs]; rfl)
 have q9 := hide (show cs[9]? = some (.slice xA1 xn1 xc1) by rw [hcs]; rfl)
 have q10 := hide (show cs[10]? = some (.slice xA2 xn2 xc2) by rw [hcs]; rfl)
 have q11 := hide (show cs[11]? = some (.slice xA3 xn3 xc3) by rw [hcs]; rfl)
 have q12 := hide (show cs[12]? = some (.slice xA4 xn4 xc4) by rw [hcs]; rfl)
 have q13 := hide (show cs[13]? = some (.slice xA5 xn5 xc5) by rw [hcs]; rfl)
 have q14 := hide (show cs[14]? = some (.slice xA6 xn6 xc6) by rw [hcs]; rfl)
 have q15 := hide (show cs[15]? = some (.string f) by rw [hcs]; rfl)
 rw [← hcs] at G FT ⊢
 clear hcs hfour hs hs'
 have k3 := hide (Ro.new w cs 30)
 have hb := hide (bl_new w (.cells cs 30))
 go_enter Tryz.func15, Tryz.ntmps15
 go_upto_region 1 with fail
 generalize (w.alloc (.cells cs 30)) = u at *
 obtain ⟨y0, _⟩ := ro_cf k3.out 0 _ q0.out
 by_cases v0 : v < 1
 ·have d0 : decide (v < 1) = true := decide_eq_true v0
  obtain rfl : X = 4 := by rw [hX.out, if_pos (.inl v0)]
  go_wp2_with fail
  go_ret
  exact ⟨rfl, hb.out⟩
 have d0 : decide (v < 1) = false := decide_eq_false v0
 by_cases v1 : 4 < v
 ·have d1 : decide (4 < v) = true := decide_eq_true v1
  obtain rfl : X = 4 := by rw [hX.out, if_pos (.inr v1)]
  replace v0 := hide v0
  replace v1 := hide v1
  go_wp2_with fail
  go_ret
  exact ⟨rfl, hb.out⟩
 have d1 : decide (4 < v) = false := decide_eq_false v1
 have hX2 := hide (hX.out.trans (if_neg (by omega)))
 clear hX
 replace v0 := hide v0
 replace v1 := hide v1
 obtain ⟨y1, _⟩ := ro_cf k3.out 1 _ q1.out
 obtain ⟨y2, _⟩ := ro_cf k3.out 2 _ q2.out
 obtain ⟨y3, _⟩ := ro_cf k3.out 3 _ q3.out
 obtain ⟨y4, _⟩ := ro_cf k3.out 4 _ q4.out
 obtain ⟨y5, _⟩ := ro_cf k3.out 5 _ q5.out
 obtain ⟨y6, _⟩ := ro_cf k3.out 6 _ q6.out
 obtain ⟨y7, _⟩ := ro_cf k3.out 7 _ q7.out
 go_wp2_with fail
 refine (B1.out _ (by have := v0.out; omega) (by have := v1.out; omega) (R1.out _ hb.out)).mono ?_
 rintro e w1 ⟨rfl, h1⟩
 replace k3 := hide (k3.out.below h1)
 replace hb := hide (bel_next hb.out h1)
 clear h1 B1 R1 y0 y1 y2 y3 y4 y5 y6 y7
 generalize vB A four 4 = e1 at *
 by_cases z1 : e1 = 0
 rotate_left
 ·have d6 : (e1 != 0) = true := by simpa using z1
  have d6' : decide (e1 = 0) = false := decide_eq_false z1
  obtain rfl : X = e1 := by rw [hX2.out, if_pos z1]
  replace z1 := hide z1
  go_wp2
  go_ret
  exact ⟨rfl, hb.out⟩
 subst z1
 have hX := hide (hX2.out.trans (if_neg (fun h => h rfl)))
 clear hX2
 obtain ⟨y0, _⟩ := ro_cf k3.out 0 _ q0.out
 by_cases v2 : v = 1
 ·have hX2 := hide (hX.out.trans (if_pos v2))
  clear hX
  obtain ⟨y15, _⟩ := ro_cf k3.out 15 _ q15.out
  have dv : (v == 1) = true := by simpa using v2
  have dv' : decide (v = 1) = true := decide_eq_true v2
  replace v2 := hide v2
  cases ze
  ·obtain rfl : X = 18 := by rw [hX2.out, if_neg (fun h => by rw [decide_eq_true h.1] at hze; exact absurd hze.out (by decide))]
   go_wp2_with fail
   go_ret
   exact ⟨rfl, hb.out⟩
  obtain ⟨y8, _⟩ := ro_cf k3.out 8 _ q8.out
  obtain ⟨y9, _⟩ := ro_cf k3.out 9 _ q9.out
  obtain ⟨y10, _⟩ := ro_cf k3.out 10 _ q10.out
  obtain ⟨y11, _⟩ := ro_cf k3.out 11 _ q11.out
  obtain ⟨y12, _⟩ := ro_cf k3.out 12 _ q12.out
  obtain ⟨y13, _⟩ := ro_cf k3.out 13 _ q13.out
  obtain ⟨y14, _⟩ := ro_cf k3.out 14 _ q14.out
  have IZ := hide (fun W => show IsBk W ⟨⟨none, 0, 0⟩, ⟨none, 0, 0⟩, ⟨none, 0, 0⟩, ⟨none, 0, 0⟩, ⟨none, 0, 0⟩, ⟨none, 0, 0⟩, ⟨none, 0, 0⟩⟩ Bk.zero from
   ⟨⟨fun _ => ⟨rfl, rfl⟩, Nat.le_refl _, by decide⟩, ⟨fun _ => ⟨rfl, rfl⟩, Nat.le_refl _, by decide⟩, ⟨fun _ => ⟨rfl, rfl⟩, Nat.le_refl _, by decide⟩, ⟨fun _ => ⟨rfl, rfl⟩, Nat.le_refl _, by decide⟩, ⟨fun _ => ⟨rfl, rfl⟩, Nat.le_refl _, by decide⟩, ⟨fun _ => ⟨rfl, rfl⟩, Nat.le_refl _, by decide⟩, ⟨fun _ => ⟨rfl, rfl⟩, Nat.le_refl _, by decide⟩,
     Rd.none_ _, Rd.none_ _, Rk.none_ 3 _, Rd.none_ _, Rk.none_ 2 _, Rd.none_ _, Rd.none_ _, Bk.zero_ok⟩)
  go_wp2_with fail
  refine (EQ.out _ (R2.out _ hb.out) (IZ.out _)).mono ?_
  rintro e w2 ⟨rfl, h1⟩
  replace hb := hide (bel_next hb.out h1)
  clear h1 EQ R2 IZ k3 y0 y15 y8 y9 y10 y11 y12 y13 y14
  rw [← zb.out]
  cases hzb : zB B
  ·obtain rfl : X = 18 := by rw [hX2.out, if_neg (fun h => by rw [hzb] at h; exact absurd h.2 (by decide))]
   clear hzb
   go_wp2
   go_ret
   exact ⟨rfl, hb.out⟩
  ·obtain rfl : X = 0 := by rw [hX2.out, if_pos ⟨of_decide_eq_true hze.out.symm, hzb⟩]
   clear hzb
   go_wp2
   go_ret
   exact ⟨rfl, hb.out⟩
 have hX2 := hide (hX.out.trans (if_neg v2))
 clear hX EQ
 have dv : (v == 1) = false := by simpa using v2
 have dv' : decide (v = 1) = false := decide_eq_false v2
 replace v2 := hide v2
 obtain ⟨y8, _⟩ := ro_cf k3.out 8 _ q8.out
 obtain ⟨y9, _⟩ := ro_cf k3.out 9 _ q9.out
 obtain ⟨y10, _⟩ := ro_cf k3.out 10 _ q10.out
 obtain ⟨y11, _⟩ := ro_cf k3.out 11 _ q11.out
 obtain ⟨y12, _⟩ := ro_cf k3.out 12 _ q12.out
 obtain ⟨y13, _⟩ := ro_cf k3.out 13 _ q13.out
 obtain ⟨y14, _⟩ := ro_cf k3.out 14 _ q14.out
 go_wp2_with fail
 refine (B2.out _ (by have := v0.out; omega) (by have := v1.out; omega) (R2.out _ hb.out)).mono ?_
 rintro e w1 ⟨rfl, h1⟩
 replace k3 := hide (k3.out.below h1)
 replace hb := hide (bel_next hb.out h1)
 clear h1 B2 y0 y8 y9 y10 y11 y12 y13 y14
 have hok2 := hide (fun h => (vB_iff B four 8).1 h)
 generalize vB B four 8 = e1 at *
 by_cases z1 : e1 = 0
 rotate_left
 ·have d6 : (e1 != 0) = true := by simpa using z1
  have d6' : decide (e1 = 0) = false := decide_eq_false z1
  obtain rfl : X = e1 := by rw [hX2.out, if_pos z1]
  replace z1 := hide z1
  go_wp2
  go_ret
  exact ⟨rfl, hb.out⟩
 subst z1
 have hX := hide (hX2.out.trans (if_neg (fun h => h rfl)))
 clear hX2
 have hB := hide (hok2.out rfl)
 generalize vF (byt f) v B = rf at *
 go_wp2_with (refine load_row_g (by rfl) 30 _ rfl _ rfl _ _ _ k3.out Tryz.underlying30 rfl G.1 ?_)
 refine (FT.out _ (R2.out _ hb.out) hB.out).mono ?_
 rintro e w3 ⟨rfl, h1⟩
 replace hb := hide (bel_next hb.out h1)
 clear h1 FT R2 k3
 go_wp2
 go_ret
 exact ⟨reti hX.out.symm, hb.out⟩
end r20_
end Go.Proofs.YtbehflfpdkedgaaGreatDoor
