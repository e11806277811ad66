/-
  Texts of mine in one file: Law21e. Their conditions stand in the theorems.
-/
import Derived.Test.YtpapfpcehlhgeaaGreatDoorE24
import Derived.Deep.RegionHeld3
import Derived.Deep.DeepCutAuto
namespace Go.Proofs.YtpapfpcehlhgeaaGreatDoor
set_option linter.unusedVariables false
set_option linter.unusedSimpArgs false
set_option maxRecDepth 100000
set_option maxHeartbeats 16000000
open Go.ChangeShapes Go.WideShapes Go.ChangeAt Go.RowKit
namespace l21_
theorem alias_ (bA:Option Addr) (bn bc:Nat) (zs:List Int) (v:Int) (S:BkS) (A:Bk) (S':BkS) (B:Bk) (f:ByteArray) (w:World) (hT:T21 w) (hb0:IsRw .u8 w bA bn bc zs) (hv:(Lit.int .i64 v).wf=true) (h:IsBk w S A) (h':IsBk w S' B) (hf0:f.size≤maxLen) :
 Calls Tryz.prog 7 #[.slice bA bn bc,.agg (flA v S S' f)] w fun e w'=>e=.returned (.bool true)∧Below w.heap.size w w':=by
 have G:=gr_file v S S' f
 obtain ⟨xs,hxs⟩:∃ xs,xs=zs.take bn:=⟨_,rfl⟩
 have rB:=hb0.rd
 have hBy:Bytes xs:=by rw [hxs];exact bytes_of_mem fun x hx=>wf_u8 (hb0.wf x hx)
 have hnil:=hb0.nil
 have hcap:=hb0.cap
 rw [← hxs] at rB
 clear hxs hb0
 replace rB:=hide rB
 replace hBy:=hide hBy
 replace hnil:=hide hnil
 replace hcap:=hide hcap
 obtain ⟨X,hX⟩:∃ X,X=vFile v A B (byt f):=⟨_,rfl⟩
 obtain ⟨LL,hLL⟩:∃ L,L=serL v A B (byt f):=⟨_,rfl⟩
 obtain ⟨F,hF⟩:∃ F,F=(fewB A && fewB B && decide (f.size≤600)):=⟨_,rfl⟩
 have FW:=hide (fun W h h'=>r20_.Few v S S' f A B W h h')
 rw [← hF] at FW
 have SE:=hide (fun (a:A.le 10000) (b:B.le 10000) (hf:f.size≤200000) W hT h h'=>zf_.Serialize v S S' f A B W hT h h' a b hf)
 rw [← hX,← hLL] at SE
 have okA:=hide h.ok
 have okB:=hide h'.ok
 obtain ⟨cs,hcs⟩:∃ cs,cs=flA v S S' f:=⟨_,rfl⟩
 rw [← hcs] at G FW SE
 show Calls Tryz.prog 7 #[.slice bA bn bc,.agg (flA v S S' f)] w _
 rw [← hcs]
 clear hcs
 replace hX:=hide hX
 replace hLL:=hide hLL
 replace hF:=hide hF
 clear hv
 have k:=hide (Ro.new w cs 30)
 have hb:=hide (bl_new w (.cells cs 30))
 have i1:=hide (h.below hb.out)
 have i2:=hide (h'.below hb.out)
 have HT:=hide (hT.below hb.out)
 replace rB:=hide (rB.out.below hb.out)
 have h0:=hide h
 have h0':=hide h'
 have hT0:=hide hT
 clear h h' hT
 go_enter Tryz.func7,Tryz.ntmps7
 go_upto_region 1 with fail
 generalize (w.alloc (.cells cs 30))=u at *
 go_wp2_with fail
 refine (awake _ HT.out).mono ?_
 rintro e wa ⟨rfl,h1⟩
 replace k:=hide (k.out.below h1)
 replace i1:=hide (i1.out.below h1)
 replace i2:=hide (i2.out.below h1)
 replace HT:=hide (HT.out.below h1)
 replace rB:=hide (rB.out.below h1)
 replace hb:=hide (bel_next hb.out h1)
 clear h1
 by_cases big:(3000:Int)<(bn:Int)
 ·have db:decide ((3000:Int)<(bn:Int))=true:=decide_eq_true big
  have db2:decide (3000<bn)=true:=decide_eq_true (by omega)
  replace big:=hide big
  go_upto_region 2 with fail
  go_wp2_with fail
  refine (awake _ HT.out).mono ?_
  rintro e wz ⟨rfl,h1⟩
  replace k:=hide (k.out.below h1)
  replace i1:=hide (i1.out.below h1)
  replace i2:=hide (i2.out.below h1)
  replace HT:=hide (HT.out.below h1)
  replace rB:=hide (rB.out.below h1)
  replace hb:=hide (bel_next hb.out h1)
  clear h1
  go_wp2
  go_ret
  exact ⟨rfl,hb.out⟩
 ·have db:decide ((3000:Int)<(bn:Int))=false:=decide_eq_false big
  have db2:decide (3000<bn)=false:=decide_eq_false (by omega)
  replace big:=hide big
  go_wp2_with (refine load_row_g (by rfl) 30 _ rfl _ rfl _ _ _ k.out Tryz.underlying30 rfl G.1 ?_)
  refine (FW.out _ i1.out i2.out).mono ?_
  rintro e wf ⟨rfl,h1⟩
  replace k:=hide (k.out.below h1)
  replace i1:=hide (i1.out.below h1)
  replace i2:=hide (i2.out.below h1)
  replace HT:=hide (HT.out.below h1)
  replace rB:=hide (rB.out.below h1)
  replace hb:=hide (bel_next hb.out h1)
  clear h1
  clear FW
  cases F
  ·go_upto_region 2 with fail
   go_wp2_with fail
   refine (awake _ HT.out).mono ?_
   rintro e wz ⟨rfl,h1⟩
   replace k:=hide (k.out.below h1)
   replace i1:=hide (i1.out.below h1)
   replace i2:=hide (i2.out.below h1)
   replace HT:=hide (HT.out.below h1)
   replace rB:=hide (rB.out.below h1)
   replace hb:=hide (bel_next hb.out h1)
   clear h1
   go_wp2
   go_ret
   exact ⟨rfl,hb.out⟩
  ·have hF2:=hF.out.symm
   rw [Bool.and_eq_true,Bool.and_eq_true,decide_eq_true_eq] at hF2
   have s1:=hide (few_small i1.out hF2.1.1)
   have s2:=hide (few_small i2.out hF2.1.2)
   have le1:=hide (few_le hF2.1.1)
   have le2:=hide (few_le hF2.1.2)
   have hf6:=hide hF2.2
   clear hF hF2 hf0
   replace SE:=hide (SE.out (le_up' le1.out (by decide)) (le_up' le2.out (by decide)) (by have:=hf6.out;omega))
   have Lsm0:=hide (show LL.length≤90000 from by rw [hLL.out];exact serL_len okA.out okB.out le1.out le2.out (by rw [len_byt];exact hf6.out))
   have Lby0:=hide (show Bytes LL from by rw [hLL.out];exact serL_by okA.out okB.out le1.out le2.out)
   clear hX hLL okA okB s1 s2 le1 le2 hf6 h0 h0' hT0
   have be:=hide (bl_new wf (.cells #[] 5))
   have bg:=big.out
   go_upto_region 4 with (at_builtin;refine apn elU8 (Ow.lit wf 5 [] (by simp)) be.out (Nat.le_refl _) (rB.out.alloc (.cells #[] 5)) (.tmp 30) (.tmp 31) rfl rfl rfl rfl hnil.out (one_u8 _) (by simp [maxLen] <;> omega) (by simp <;> omega) ?_;intro A5 c5 u5 ho hbn;simp only [Nat.zero_add,List.nil_append,List.length_nil] at ho)
   have o5:=hide ho
   replace k:=hide (k.out.below hbn)
   replace i1:=hide (i1.out.below hbn)
   replace i2:=hide (i2.out.below hbn)
   replace HT:=hide (HT.out.below hbn)
   replace rB:=hide (rB.out.below hbn)
   replace hb:=hide (bel_next hb.out hbn)
   clear ho hbn be bg
   have PA:=hide (zf_.Parse (pin_ow HT.out o5.out hBy.out (by have:=big.out;omega)))
   clear hBy hnil hcap
   go_wp2_with fail
   refine PA.out.mono ?_
   rintro e u6 ⟨v1,T,T',f1,Q,Q',e1,a1,rfl,R,hP⟩
   clear PA
   have oc:=hide R.a.ch
   have ox:=hide R.b.ix
   have bc1:=R.a.ok.ch
   have bx1:=R.b.ok.ix
   clear R
   have GF:=gr_file v1 T T' f1
   obtain ⟨c6,hc6⟩:∃ c,c=flA v1 T T' f1:=⟨_,rfl⟩
   have q4:=hide (show c6[4]?=some (.slice T.ch.A T.ch.n T.ch.c) by rw [hc6];rfl)
   have q9:=hide (show c6[9]?=some (.slice T'.ix.A T'.ix.n T'.ix.c) by rw [hc6];rfl)
   rw [← hc6] at GF ⊢
   clear hc6
   go_upto_region 5 with (refine wpList_store_row rfl 30 _ _ rfl _ _ rfl rfl _ _ (heap_alloc_last _ _) GF.1 (by rw [GF.2.1];rfl) GF.2.2 ?_;rw [World.setRow_alloc_new])
   have k6:=hide (Ro.new u6 c6 30)
   have h1:=bl_new u6 (.cells c6 30)
   replace oc:=hide (oc.out.below h1)
   replace ox:=hide (ox.out.below h1)
   replace hP:=hide (bel_next hP h1)
   clear h1 GF
   generalize u6.alloc (.cells c6 30)=u7 at *
   generalize u6.heap.size=g6 at *
   obtain ⟨B6,hB6⟩:∃ b,b=u5.heap.size:=⟨_,rfl⟩
   rw [← hB6] at oc ox
   replace hB6:=hide hB6
   generalize Q.ch=l1 at *
   generalize Q'.ix=l2 at *
   obtain ⟨⟨tA0,tn0,tc0⟩,hT0⟩:∃ s:Sl,s=T.ch:=⟨_,rfl⟩
   rw [← hT0] at oc q4
   obtain ⟨⟨tA1,tn1,tc1⟩,hT1⟩:∃ s:Sl,s=T'.ix:=⟨_,rfl⟩
   rw [← hT1] at ox q9
   clear hT0 hT1
   dsimp only at oc ox q4 q9
   go_upto_region 6 with fail
   go_loopw [9] (fun i wr=>∃ j:Nat,j≤tn0∧i=.int .i64 (j:Nat)∧Hid (Ro wr g6 c6 30)∧Hid (Below u5.heap.size u5 wr)∧∃ m1:List Int,Hid (Ow wr B6 5 tA0 tn0 tc0 (m1.map (Value.int .u8)))∧Hid (Bytes m1)∧∃ m2:List Int,Hid (Ow wr B6 5 tA1 tn1 tc1 (m2.map (Value.int .u8)))∧Hid (Bytes m2)) (fun i _=>tn0 - (intOf i).toNat)
   case atStart=>exact ⟨0,by omega,rfl,k6,hP,l1,oc,hide bc1,l2,ox,hide bx1⟩
   case round =>
    obtain ⟨j,hj,rfl,kr,hw,m1,o1,hm1,m2,o2,hm2⟩:=hrel
    obtain ⟨yq,_⟩:=ro_cf kr.out 4 _ q4.out
    by_cases hlt:j<tn0
    ·obtain ⟨gc,rfl,hg1,hg2⟩:=o1.out.form (by omega)
     obtain ⟨x,hx⟩:∃ x,m1[j]?=some x:=⟨_,List.getElem?_eq_getElem (by have:=o1.out.len;rw [List.length_map] at this;omega)⟩
     have y1:wr.cell? ⟨gc,j,none⟩=some (.int .u8 x):=(o1.out.cell j hlt).trans (by rw [List.getElem?_map,hx];rfl)
     have z1:=o1.out.frozen j
     have nm:tn0≤9223372036854775807:=by have h1:=o1.out.cap;have h2:=o1.out.capMax;simp [maxLen] at h2;omega
     have kn:=hide (ro_set_ne kr.out (g':=gc) (fun e=>ow_ne_ro o1.out kr.out (by decide) (by rw [e];rfl)) j (.int .u8 9))
     have on:=hide (show Ow (wr.setCell ⟨gc,j,none⟩ (.int .u8 9)) B6 5 (some ⟨gc,0,none⟩) tn0 tc0 ((m1.set j 9).map (Value.int .u8)) from by have:=o1.out.set j (.int .u8 9);rw [map_set8] at this;exact this)
     have hmn:=hide (bytes_set hm1.out j (v:=9) (by decide) (by decide))
     have hn:=hide (bl_set hw.out (g:=gc) (o:=j) (by have:=hB6.out;omega) (.int .u8 9))
     obtain ⟨m3,hm3,o3⟩:=ow_poke o2.out hm2.out gc j (v:=9) (by decide) (by decide)
     replace o3:=hide o3
     replace hm3:=hide hm3
     clear o2 hm2
     clear o1 hm1 hx hg1 hg2 hw kr
     go_wp2
     go_roundw
     case rel=>exact ⟨j+1,by omega,by go_num,kn,hn,_,on,hmn,_,o3,hm3⟩
     case measure=>simp [intOf];omega
    ·go_wp2_with fail
     have k6:=kr
     have hP:=hw
     have ox:=o2
     clear o1 hm1 o2 hlt kr hw yq
     have bx1:=hm2.out
     clear hm2
     go_loopw [10] (fun i wr=>∃ j:Nat,j≤tn1∧i=.int .i64 (j:Nat)∧Hid (Ro wr g6 c6 30)∧Hid (Below u5.heap.size u5 wr)∧∃ m1:List Int,Hid (Ow wr B6 5 tA1 tn1 tc1 (m1.map (Value.int .u8)))∧Hid (Bytes m1)) (fun i _=>tn1 - (intOf i).toNat)
     case atStart=>exact ⟨0,by omega,rfl,k6,hP,m2,ox,hide bx1⟩
     case round =>
      obtain ⟨j,hj,rfl,kr,hw,m1,o1,hm1⟩:=hrel
      obtain ⟨yq,_⟩:=ro_cf kr.out 9 _ q9.out
      by_cases hlt:j<tn1
      ·obtain ⟨gc,rfl,hg1,hg2⟩:=o1.out.form (by omega)
       obtain ⟨x,hx⟩:∃ x,m1[j]?=some x:=⟨_,List.getElem?_eq_getElem (by have:=o1.out.len;rw [List.length_map] at this;omega)⟩
       have y1:wr.cell? ⟨gc,j,none⟩=some (.int .u8 x):=(o1.out.cell j hlt).trans (by rw [List.getElem?_map,hx];rfl)
       have z1:=o1.out.frozen j
       have nm:tn1≤9223372036854775807:=by have h1:=o1.out.cap;have h2:=o1.out.capMax;simp [maxLen] at h2;omega
       have kn:=hide (ro_set_ne kr.out (g':=gc) (fun e=>ow_ne_ro o1.out kr.out (by decide) (by rw [e];rfl)) j (.int .u8 9))
       have on:=hide (show Ow (wr.setCell ⟨gc,j,none⟩ (.int .u8 9)) B6 5 (some ⟨gc,0,none⟩) tn1 tc1 ((m1.set j 9).map (Value.int .u8)) from by have:=o1.out.set j (.int .u8 9);rw [map_set8] at this;exact this)
       have hmn:=hide (bytes_set hm1.out j (v:=9) (by decide) (by decide))
       have hn:=hide (bl_set hw.out (g:=gc) (o:=j) (by have:=hB6.out;omega) (.int .u8 9))
       clear o1 hm1 hx hg1 hg2 hw kr
       go_wp2
       go_roundw
       case rel=>exact ⟨j+1,by omega,by go_num,kn,hn,_,on,hmn⟩
       case measure=>simp [intOf];omega
      ·go_upto_region 13 with fail
       clear o1 hm1 hlt
       replace k:=hide (k.out.below hw.out)
       have i1w:=hide (i1.out.below hw.out)
       have i2w:=hide (i2.out.below hw.out)
       have HTw:=hide (HT.out.below hw.out)
       have hbw:=hide (bel_next hb.out hw.out)
       clear kr yq
       go_wp2_with (refine load_row_g (by rfl) 30 _ rfl _ rfl _ _ _ k.out Tryz.underlying30 rfl G.1 ?_)
       refine (SE.out _ HTw.out i1w.out i2w.out).mono ?_
       rintro e u8 ⟨As,cS,rfl,os,h1⟩
       have os:=os
       have sw:=hbw.out.size
       have ow0:=hide (os.mono (show 0≤_ from Nat.zero_le _))
       have gsl:=hide (own_ge os)
       replace k:=hide (k.out.below h1)
       replace hbw:=hide (bel_next hbw.out h1)
       have hP8:=hide (bel_next hw.out h1)
       have hPs:=hide (show u5.heap.size≤wr.heap.size from hw.out.size)
       clear h1 os hw i1w i2w HTw
       have Ls:=Lsm0
       have bg:=Ls.out
       have be:=hide (bl_new u8 (.cells #[] 5))
       go_upto_region 15 with (at_builtin;refine apn elU8 (Ow.lit u8 5 [] (by simp)) be.out (Nat.le_refl _) (ow0.out.rd.alloc (.cells #[] 5)) (.tmp 70) (.tmp 71) rfl rfl rfl rfl ow0.out.nilcap (one_u8 _) (by simp [maxLen] <;> omega) (by simp <;> omega) ?_;intro A9 c9 u9 ho hbn;simp only [Nat.zero_add,List.nil_append,List.length_nil] at ho)
       have o9:=hide ho
       have gs9:=hide (own_lt ow0.out)
       have ow9:=hide (ow0.out.below hbn)
       replace k:=hide (k.out.below hbn)
       replace hbw:=hide (bel_next hbw.out hbn)
       replace hP8:=hide (bel_next hP8.out hbn)
       clear ho hbn be bg ow0
       go_upto_region 16 with fail
       have Lb:=Lby0
       go_loopw [14] (fun i wr=>∃ j:Nat,j≤LL.length∧i=.int .i64 (j:Nat)∧Hid (Ro wr w.heap.size cs 30)∧Hid (Below u5.heap.size u5 wr)∧Hid (Ow wr u8.heap.size 5 A9 LL.length c9 (LL.map (Value.int .u8)))∧∃ m1:List Int,Hid (Ow wr 0 5 As LL.length cS (m1.map (Value.int .u8)))∧Hid (Bytes m1)) (fun i _=>LL.length - (intOf i).toNat)
       case atStart=>exact ⟨0,by omega,rfl,k,hP8,o9,LL,ow9,Lb⟩
       case round =>
        obtain ⟨j,hj,rfl,kr,hw,o9,m1,o1,hm1⟩:=hrel
        by_cases hlt:j<LL.length
        ·obtain ⟨gc,rfl,hg1,hg2⟩:=o1.out.form (by omega)
         have gge:=gsl.out gc rfl
         have gle:=gs9.out gc rfl
         obtain ⟨x,hx⟩:∃ x,m1[j]?=some x:=⟨_,List.getElem?_eq_getElem (by have:=o1.out.len;rw [List.length_map] at this;omega)⟩
         have y1:wr.cell? ⟨gc,j,none⟩=some (.int .u8 x):=(o1.out.cell j hlt).trans (by rw [List.getElem?_map,hx];rfl)
         have z1:=o1.out.frozen j
         obtain ⟨yy,hyy⟩:∃ z,z=IntKind.u8.wrap (x+1):=⟨_,rfl⟩
         have hyb:=u8w (x+1)
         rw [← hyy] at hyb
         have wy:=hyy.symm
         have nm:=Ls.out
         have kn:=hide (ro_set_ne kr.out (g':=gc) (fun e=>ow_ne_ro o1.out kr.out (by decide) (by rw [e];rfl)) j (.int .u8 yy))
         have o9n:=hide (o9.out.setLow (g:=gc) j gle (.int .u8 yy))
         have on:=hide (show Ow (wr.setCell ⟨gc,j,none⟩ (.int .u8 yy)) 0 5 (some ⟨gc,0,none⟩) LL.length cS ((m1.set j yy).map (Value.int .u8)) from by have:=o1.out.set j (.int .u8 yy);rw [map_set8] at this;exact this)
         have hmn:=hide (bytes_set hm1.out j hyb.1 hyb.2)
         have hn:=hide (bl_set hw.out (g:=gc) (o:=j) (by have:=hPs.out;omega) (.int .u8 yy))
         clear o1 hm1 hx hg1 hg2 hw kr o9 hyy hyb gge gle
         go_wp2
         go_roundw
         case rel=>exact ⟨j+1,by omega,by go_num,kn,hn,o9n,_,on,hmn⟩
         case measure=>simp [intOf];omega
        ·go_upto_region 19 with fail
         clear o1 hm1
         have i1w:=hide (i1.out.below hw.out)
         have i2w:=hide (i2.out.below hw.out)
         have HTw:=hide (HT.out.below hw.out)
         have hbq:=hide (bel_next hb.out hw.out)
         have o5q:=hide (o5.out.below hw.out)
         have rBq:=hide (rB.out.below hw.out)
         clear hw
         go_wp2_with (first | (refine load_row_g (by rfl) 30 _ rfl _ rfl _ _ _ kr.out Tryz.underlying30 rfl G.1 ?_))
         refine (SE.out _ HTw.out i1w.out i2w.out).mono ?_
         rintro e u20 ⟨At,cT,rfl,ot,h1⟩
         replace ot:=hide ot
         replace hbq:=hide (bel_next hbq.out h1)
         replace o5q:=hide (o5q.out.below h1)
         replace rBq:=hide (rBq.out.below h1)
         have o9q:=hide (o9.out.below h1)
         clear h1 kr o9 i1w i2w HTw
         go_wp2_with fail
         refine (r1_.Same A5 bA bn c5 bn bc xs _ (by have:=big.out;omega) o5q.out.rd rBq.out).mono ?_
         rintro e u21 ⟨rfl,h1⟩
         replace hbq:=hide (bel_next hbq.out h1)
         replace ot:=hide (ot.out.below h1)
         replace o9q:=hide (o9q.out.below h1)
         clear h1
         go_wp2_with fail
         refine (r1_.Same At A9 LL.length cT LL.length c9 LL _ (by have:=Ls.out;omega) ot.out.rd o9q.out.rd).mono ?_
         rintro e u22 ⟨rfl,h1⟩
         replace hbq:=hide (bel_next hbq.out h1)
         clear h1
         go_wp2
         go_ret
         exact ⟨rfl,hbq.out⟩
end l21_
end Go.Proofs.YtpapfpcehlhgeaaGreatDoor
