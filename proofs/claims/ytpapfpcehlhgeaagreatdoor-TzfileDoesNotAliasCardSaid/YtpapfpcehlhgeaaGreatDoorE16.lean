/-
  Texts of mine in one file: VdF. Their conditions stand in the theorems.
-/
import Derived.Test.YtpapfpcehlhgeaaGreatDoorE07
import Derived.Test.YtpapfpcehlhgeaaGreatDoorE03
import Derived.Test.YtpapfpcehlhgeaaGreatDoorE10
import Derived.Test.YtpapfpcehlhgeaaGreatDoorE11
import Derived.Test.YtpapfpcehlhgeaaGreatDoorE15
namespace Go.Proofs.YtpapfpcehlhgeaaGreatDoor
set_option linter.unusedVariables false
set_option linter.unusedSimpArgs false
set_option maxRecDepth 100000
set_option maxHeartbeats 16000000
open Go.ChangeShapes Go.WideShapes Go.ChangeAt Go.RowKit
namespace vd_
theorem minus (t c:Int) (w:World) (h0:-9223372036854775808≤t) (h1:t<9223372036854775808) (c0:-2147483648≤c) (c1:c≤2147483647) :
 Calls Tryz.prog 191 #[.int .i64 t,.int .i64 c] w fun e w'=>e=.returned (.int .i64 (satM t c))∧Below w.heap.size w w':=by
 have hb:=hide (bl_refl w)
 obtain ⟨r,hr⟩:∃ r,r=satM t c:=⟨_,rfl⟩
 rw [← hr]
 obtain ⟨D,hD⟩:∃ D,IntKind.i64.wrap (t - c)=D:=⟨_,rfl⟩
 have hw:=hD
 rw [IntKind.wrap_i64] at hw
 unfold satM at hr
 by_cases p:0<c
 ·have dp:decide (0<c)=true:=decide_eq_true p
  by_cases q:t<D
  ·have dq:decide (t<D)=true:=decide_eq_true q
   obtain rfl:r=-9223372036854775808:=by rw [hr,if_pos ⟨p,by omega⟩]
   clear hr hw
   replace p:=hide p
   replace q:=hide q
   go_enter Tryz.func191,Tryz.ntmps191
   go_wp2
   go_ret
   exact ⟨rfl,hb.out⟩
  ·have dq:decide (t<D)=false:=decide_eq_false q
   have dn:decide (c<0)=false:=decide_eq_false (by omega)
   obtain rfl:r=D:=by rw [hr,if_neg (fun h=>q (by omega)),if_neg (by omega)];omega
   clear hr hw
   replace p:=hide p
   replace q:=hide q
   go_enter Tryz.func191,Tryz.ntmps191
   go_wp2
   go_ret
   exact ⟨rfl,hb.out⟩
 ·have dp:decide (0<c)=false:=decide_eq_false p
  by_cases m:c<0
  ·have dm:decide (c<0)=true:=decide_eq_true m
   by_cases q:D<t
   ·have dq:decide (D<t)=true:=decide_eq_true q
    obtain rfl:r=9223372036854775807:=by rw [hr,if_neg (fun h=>p h.1),if_pos ⟨m,by omega⟩]
    clear hr hw
    replace p:=hide p
    replace m:=hide m
    replace q:=hide q
    go_enter Tryz.func191,Tryz.ntmps191
    go_wp2
    go_ret
    exact ⟨rfl,hb.out⟩
   ·have dq:decide (D<t)=false:=decide_eq_false q
    obtain rfl:r=D:=by rw [hr,if_neg (fun h=>p h.1),if_neg (fun h=>q (by omega))];omega
    clear hr hw
    replace p:=hide p
    replace m:=hide m
    replace q:=hide q
    go_enter Tryz.func191,Tryz.ntmps191
    go_wp2
    go_ret
    exact ⟨rfl,hb.out⟩
  ·have dm:decide (c<0)=false:=decide_eq_false m
   obtain rfl:r=D:=by rw [hr,if_neg (fun h=>p h.1),if_neg (fun h=>m h.1)];omega
   clear hr hw
   replace p:=hide p
   replace m:=hide m
   go_enter Tryz.func191,Tryz.ntmps191
   go_wp2
   go_ret
   exact ⟨rfl,hb.out⟩
theorem lastType (S:BkS) (b:Bk) (t:TT) (j P:Nat) (w:World) (h:IsBk w S b) (hs:S.small) (hP:P<S.ti.n) (hPe:P+1=S.ti.n) (hl:S.ix.n=S.ti.n) (hj:b.ix[P]?=some (j:Int)) (ht:b.ty[j]?=some t) (hjn:j<S.ty.n) :
 Calls Tryz.prog 188 #[.agg (blA S)] w fun e w'=>e=.returned (.tuple #[.agg #[.int .i32 t.1,.bool t.2.1,.int .u8 t.2.2],.bool true])∧Below w.heap.size w w':=by
 have h1:=h.ix
 have h2:=h.ty
 have hj0:=h.ok.ix.mem _ (List.mem_of_getElem? hj)
 have s0:=hs.ti
 have s1:=hs.ix
 clear h hs
 obtain ⟨⟨A0,n0,c0⟩,⟨A1,n1,c1⟩,⟨A2,n2,c2⟩,⟨A3,n3,c3⟩,⟨A4,n4,c4⟩,⟨A5,n5,c5⟩,⟨A6,n6,c6⟩⟩:=S
 dsimp only [blA] at *
 obtain ⟨cs,hcs⟩:∃ cs:Array Value,cs=#[.slice A0 n0 c0,.slice A1 n1 c1,.slice A2 n2 c2,.slice A3 n3 c3,.slice A4 n4 c4,.slice A5 n5 c5,.slice A6 n6 c6]:=⟨_,rfl⟩
 have q0:=hide (show cs[0]?=some (.slice A0 n0 c0) by rw [hcs];rfl)
 have q1:=hide (show cs[1]?=some (.slice A1 n1 c1) by rw [hcs];rfl)
 have q2:=hide (show cs[2]?=some (.slice A2 n2 c2) by rw [hcs];rfl)
 rw [← hcs]
 clear hcs
 have k3:=hide ((Ro.new w cs 28).alloc (.cells #[.int .i32 0,.bool false,.int .u8 0] 156))
 have kr:=hide (ro_2 w (.cells cs 28) #[.int .i32 0,.bool false,.int .u8 0] 156)
 have hb:=hide (bl_alloc (bl_new w (.cells cs 28)) (.cells #[.int .i32 0,.bool false,.int .u8 0] 156))
 have i1:IntKind.i64.wrap ((n0:Int) - 1)=(P:Int):=by rw [IntKind.wrap_i64];omega
 have i2:IntKind.i64.wrap (j:Int)=(j:Int):=by rw [IntKind.wrap_i64];omega
 have p1:P<n1:=by omega
 have d1:decide ((n1:Int)≤(P:Int))=false:=decide_eq_false (by omega)
 have d2:decide ((n2:Int)≤(j:Int))=false:=decide_eq_false (by omega)
 obtain ⟨ad1,a1,x1⟩:=(h1.below hb.out).int p1
 rw [hj] at x1
 simp only [Option.getD_some] at x1
 subst a1
 obtain ⟨ad2,t',a2,ht',f0,f1,f2⟩:=(h2.below hb.out).tt hjn
 rw [ht] at ht'
 obtain rfl:=Option.some.inj ht'
 subst a2
 obtain ⟨t1,t2,t3⟩:=t
 dsimp only at f0 f1 f2
 replace hl:=hide hl
 replace hPe:=hide hPe
 clear hj ht ht' h1 h2 hj0
 go_enter Tryz.func188,Tryz.ntmps188
 go_upto_region 1 with fail
 generalize (w.alloc (.cells cs 28)).alloc (.cells #[.int .i32 0,.bool false,.int .u8 0] 156)=u at *
 obtain ⟨y0,_⟩:=ro_cf k3.out 0 _ q0.out
 obtain ⟨y1,_⟩:=ro_cf k3.out 1 _ q1.out
 obtain ⟨y2,_⟩:=ro_cf k3.out 2 _ q2.out
 obtain ⟨z0,v0⟩:=ro_cf kr.out 0 _ rfl
 obtain ⟨z1,v1⟩:=ro_cf kr.out 1 _ rfl
 obtain ⟨z2,v2⟩:=ro_cf kr.out 2 _ rfl
 go_upto_region 2 with fail
 go_quiet (fail)
 go_upto_region 4 with fail
 go_region
 go_wp2
 have kd:Ro (u.drewN (nq+1)) (w.heap.size+1) #[.int .i32 0,.bool false,.int .u8 0] 156:=kr.out
 have bd:=bel_drewN hb.out (nq+1)
 generalize u.drewN (nq+1)=W at *
 have k6:=ro_set (ro_set (ro_set kd 0 (.int .i32 t1)) 1 (.bool t2)) 2 (.int .u8 t3)
 have e0:=(ro_cf k6 0 (.int .i32 t1) rfl).1
 have e1:=(ro_cf k6 1 (.bool t2) rfl).1
 have e2:=(ro_cf k6 2 (.int .u8 t3) rfl).1
 exact bodyPost_ret (v:=.tuple #[.agg #[.int .i32 t1,.bool t2,.int .u8 t3],.bool true]) (by simp [results,Tryz.results188,go_sem,e0,e1,e2]) rfl ⟨rfl,bl_set (bl_set (bl_set bd (by omega) _) (by omega) _) (by omega) _⟩
theorem agrees (r:PR) (S:BkS) (b:Bk) (four:Bool) (w:World) (hT:Tb w) (hok:prOk r) (h:IsBk w S b) (hs:S.small) (hB:BOk b four 8) :
 Calls Tryz.prog 137 #[.agg (crule (mkS r.1) r.2.1 r.2.2.1 (mkS r.2.2.2.1) r.2.2.2.2.1 r.2.2.2.2.2.1 r.2.2.2.2.2.2),.agg (blA S)] w fun e w'=>e=.returned (.bool (decide (b.ti.length=0) || agB r b))∧Below w.heap.size w w':=by
 have R:=hide (fun W (hb:Below w.heap.size w W)=>h.below hb)
 have hL:=hide (fun hn=>hB.last h.ok hn)
 have hv4:vL b.lp true=true:=by cases four;exact vL_34 hB.lp;exact hB.lp
 have hlpok:=hide h.ok.lp
 have hbch:=hide (fun x hx=>h.ok.ch.mem x hx)
 have hbad:=hB.ch
 obtain ⟨l0,l1,l2,l3,l4,l5,l6⟩:=h.lens
 have hc:=hide h.och
 have hp:=hide h.olp
 have LT:=hide (fun (t:TT) (j P:Nat) W hb hP hPe hl hj ht hjn=>lastType S b t j P W (h.below hb) hs hP hPe hl hj ht hjn)
 clear h hB l4 l5 l6
 have hsz:=prOk_len hok
 have AT0:=hide (fun t h0 h1 w hT=>show Calls Tryz.prog 190 #[.agg (crule (mkS r.1) r.2.1 r.2.2.1 (mkS r.2.2.2.1) r.2.2.2.2.1 r.2.2.2.2.2.1 r.2.2.2.2.2.2),.int .i64 t] w fun e w'=>e=.returned (.agg #[.bool true,.int .i64 (if onB r t then r.2.2.2.2.1 else r.2.1),.bool (onB r t),.string (if onB r t then mkS r.2.2.2.1 else mkS r.1)])∧Below w.heap.size w w' from
  te_.At (mkS r.1) r.2.1 r.2.2.1 (mkS r.2.2.2.1) r.2.2.2.2.1 r.2.2.2.2.2.1 r.2.2.2.2.2.2 t (onB r t) w hT ⟨by omega,by omega⟩ h0 h1 (RvOk.of hok) (onB_iff r t))
 have GR:=gr_rule (mkS r.1) r.2.1 r.2.2.1 (mkS r.2.2.2.1) r.2.2.2.2.1 r.2.2.2.2.2.1 r.2.2.2.2.2.2
 have hag:=hide (show agB r b=sameR (onB r (satM (lastT b) (cr b.lp (lastT b)))) r.2.1 r.2.2.2.2.1 (mkS r.1) (mkS r.2.2.2.1) (lastX b) (bS (nameL b.ch (lastX b).2.2.toNat)) from rfl)
 generalize crule (mkS r.1) r.2.1 r.2.2.1 (mkS r.2.2.2.1) r.2.2.2.2.1 r.2.2.2.2.2.1 r.2.2.2.2.2.2=rs at *
 clear hok hsz
 have GB:=gr_blk S
 obtain ⟨⟨A0,n0,c0⟩,⟨A1,n1,c1⟩,⟨A2,n2,c2⟩,⟨A3,n3,c3⟩,⟨A4,n4,c4⟩,⟨A5,n5,c5⟩,⟨A6,n6,c6⟩⟩:=S
 obtain ⟨s0,s1,s2,s3,s4,s5,s6⟩:=hs
 dsimp only at *
 replace l0:=hide l0
 replace l1:=hide l1
 replace l2:=hide l2
 replace l3:=hide l3
 have HT:=hide hT
 have q0:=hide (show (blA ⟨⟨A0,n0,c0⟩,⟨A1,n1,c1⟩,⟨A2,n2,c2⟩,⟨A3,n3,c3⟩,⟨A4,n4,c4⟩,⟨A5,n5,c5⟩,⟨A6,n6,c6⟩⟩)[0]?=some (.slice A0 n0 c0) by rfl)
 have q3:=hide (show (blA ⟨⟨A0,n0,c0⟩,⟨A1,n1,c1⟩,⟨A2,n2,c2⟩,⟨A3,n3,c3⟩,⟨A4,n4,c4⟩,⟨A5,n5,c5⟩,⟨A6,n6,c6⟩⟩)[3]?=some (.slice A3 n3 c3) by rfl)
 have q4:=hide (show (blA ⟨⟨A0,n0,c0⟩,⟨A1,n1,c1⟩,⟨A2,n2,c2⟩,⟨A3,n3,c3⟩,⟨A4,n4,c4⟩,⟨A5,n5,c5⟩,⟨A6,n6,c6⟩⟩)[4]?=some (.slice A4 n4 c4) by rfl)
 obtain ⟨cs,hcs⟩:∃ cs,cs=blA ⟨⟨A0,n0,c0⟩,⟨A1,n1,c1⟩,⟨A2,n2,c2⟩,⟨A3,n3,c3⟩,⟨A4,n4,c4⟩,⟨A5,n5,c5⟩,⟨A6,n6,c6⟩⟩:=⟨_,rfl⟩
 rw [← hcs] at q0 q3 q4 GB LT ⊢
 clear hcs
 obtain ⟨X,hX⟩:∃ X,X=(decide (b.ti.length=0) || agB r b):=⟨_,rfl⟩
 rw [← hX]
 rw [l0.out] at hX
 replace hX:=hide hX
 have k2:=hide ((Ro.new w rs 83).alloc (.cells cs 28))
 have k3:=hide (ro_2 w (.cells rs 83) cs 28)
 have hb:=hide (bl_alloc (bl_new w (.cells rs 83)) (.cells cs 28))
 clear hT
 go_enter Tryz.func137,Tryz.ntmps137
 go_upto_region 1 with fail
 generalize (w.alloc (.cells rs 83)).alloc (.cells cs 28)=u at *
 obtain ⟨y0,_⟩:=ro_cf k3.out 0 _ q0.out
 by_cases hz:n0=0
 ·have z1:((n0:Int) == 0)=true:=by simp;omega
  have z2:decide ((n0:Int)=0)=true:=by simp;omega
  have z3:decide (n0=0)=true:=by simp;omega
  obtain rfl:X=true:=by rw [hX.out,z3];rfl
  replace hz:=hide hz
  go_wp2_with fail
  go_ret
  exact ⟨rfl,hb.out⟩
 ·have z1:((n0:Int) == 0)=false:=by simp;omega
  have z2:decide ((n0:Int)=0)=false:=by simp;omega
  have z3:decide (n0=0)=false:=by simp;omega
  replace hX:X=agB r b:=by rw [hX.out,z3,Bool.false_or]
  obtain ⟨j,q,e1,e2,e3,hj,hq,hqc,hli,htt,hTb⟩:=hL.out (by rw [l0.out];exact hz)
  rw [l0.out] at e1 e2 hli
  rw [l1.out] at hli
  rw [l3.out] at hqc
  rw [l2.out] at hj
  have hag2:=hide (hag.out)
  rw [hq,Int.toNat_natCast] at hag2
  unfold sameR at hag2
  obtain ⟨P,hP⟩:∃ P,P=n0 - 1:=⟨_,rfl⟩
  rw [← hP] at e1 e2
  have p0:P<n0:=by omega
  have i1:IntKind.i64.wrap ((n0:Int) - 1)=(P:Int):=by rw [IntKind.wrap_i64];omega
  have hcb:=cr_bd hlpok.out (lastT b)
  obtain ⟨ad0,a0,x0⟩:=(R.out _ hb.out).ti.int p0
  rw [e1] at x0
  subst a0
  have xt:=hide (fun W (h:Rd W (some ad0) n0 (b.ti.map (Value.int .i64)))=>show W.cell? (ad0.add P)=some (.int .i64 (lastT b)) from by
   obtain ⟨ad,ea,hx⟩:=h.int p0
   cases ea
   rw [e1] at hx
   exact hx)
  clear x0
  have LTC:=hide (fun W hb=>LT.out (lastX b) j P W hb p0 (by omega) hli e2 e3 hj)
  have NMC:=hide (fun W (h:Rd W A3 n3 (bys b.ch))=>ds_.Name A3 n3 c3 b.ch q W h hbch.out (by omega) hc.out.2.1 hc.out.2.2 hbad hqc)
  have CR:=hide (fun w h=>lp_.Correction A4 n4 c4 b.lp (lastT b) w hv4 (by omega) hp.out.1 h hlpok.out hTb.1 hTb.2)
  have MN:=hide (fun w=>minus (lastT b) (cr b.lp (lastT b)) w hTb.1 hTb.2 hcb.1 hcb.2)
  have AT:=hide (fun w hT=>AT0.out (satM (lastT b) (cr b.lp (lastT b))) (satM_bd hTb.1 hTb.2).1 (satM_bd hTb.1 hTb.2).2 w hT)
  have NE:=hide (fun w=>eqR w (if onB r (satM (lastT b) (cr b.lp (lastT b))) then r.2.2.2.2.1 else r.2.1) (lastX b).1 (onB r (satM (lastT b) (cr b.lp (lastT b)))) (lastX b).2.1 (if onB r (satM (lastT b) (cr b.lp (lastT b))) then mkS r.2.2.2.1 else mkS r.1) (bS (nameL b.ch q)))
  rw [← hag2.out] at NE
  have hq1:=htt.2.2
  rw [hq] at hq1
  have tb1:=htt.1
  have tb2:=htt.2.1
  have j2:IntKind.i64.wrap (q:Int)=(q:Int):=by rw [IntKind.wrap_i64];omega
  have j3:IntKind.i64.wrap (lastX b).1=(lastX b).1:=by rw [IntKind.wrap_i64];omega
  clear hag hag2 AT0 LT hj hqc hcb htt e1 e2 e3 hL hP hv4 hbad hli hq1 tb1 tb2
  generalize agB r b=ag at *
  subst hX
  generalize (if onB r (satM (lastT b) (cr b.lp (lastT b))) then r.2.2.2.2.1 else r.2.1)=o1 at *
  generalize (if onB r (satM (lastT b) (cr b.lp (lastT b))) then mkS r.2.2.2.1 else mkS r.1)=s1' at *
  generalize onB r (satM (lastT b) (cr b.lp (lastT b)))=b1 at *
  generalize satM (lastT b) (cr b.lp (lastT b))=U at *
  generalize cr b.lp (lastT b)=C at *
  generalize lastT b=T at *
  generalize bS (nameL b.ch q)=nm at *
  obtain ⟨t1,ht1⟩:∃ t,t=(lastX b).1:=⟨_,rfl⟩
  obtain ⟨t2,ht2⟩:∃ t,t=(lastX b).2.1:=⟨_,rfl⟩
  rw [← ht1] at NE LTC j3
  rw [← ht2] at NE LTC
  rw [hq] at LTC
  clear ht1 ht2 hTb hq
  replace hz:=hide hz
  go_wp2_with (refine load_row_g (by rfl) 28 _ rfl _ rfl _ _ _ k3.out Tryz.underlying28 rfl GB.1 ?_)
  refine (LTC.out _ hb.out).mono ?_
  rintro e w1 ⟨rfl,h1⟩
  have k5:=hide (Ro.new w1 #[.int .i32 t1,.bool t2,.int .u8 (q:Int)] 156)
  replace k3:=hide ((k3.out.below h1).alloc (.cells #[.int .i32 t1,.bool t2,.int .u8 (q:Int)] 156))
  replace k2:=hide ((k2.out.below h1).alloc (.cells #[.int .i32 t1,.bool t2,.int .u8 (q:Int)] 156))
  replace hb:=hide (bl_alloc (bel_next hb.out h1) (.cells #[.int .i32 t1,.bool t2,.int .u8 (q:Int)] 156))
  clear h1 LTC y0
  go_upto_region 4 with fail
  generalize w1.heap.size=g5 at *
  generalize w1.alloc (.cells #[.int .i32 t1,.bool t2,.int .u8 (q:Int)] 156)=u1 at *
  obtain ⟨y3,_⟩:=ro_cf k3.out 3 _ q3.out
  obtain ⟨z2',_⟩:=ro_cf k5.out 2 _ rfl
  go_wp2_with fail
  refine (NMC.out _ (R.out _ hb.out).ch).mono ?_
  rintro e w2 ⟨rfl,h1⟩
  replace k5:=hide (k5.out.below h1)
  replace k3:=hide (k3.out.below h1)
  replace k2:=hide (k2.out.below h1)
  replace hb:=hide (bel_next hb.out h1)
  clear h1 NMC y3 z2'
  obtain ⟨y0,_⟩:=ro_cf k3.out 0 _ q0.out
  obtain ⟨z0,_⟩:=ro_cf k5.out 0 _ rfl
  obtain ⟨z1',_⟩:=ro_cf k5.out 1 _ rfl
  have x0:=xt.out _ (R.out _ hb.out).ti
  have j4:=j3
  go_upto_region 9 with fail
  have k10:=hide (Ro.new w2 #[.bool true,.int .i64 t1,.bool t2,.string nm] 90)
  replace k3:=hide (k3.out.alloc (.cells #[.bool true,.int .i64 t1,.bool t2,.string nm] 90))
  replace k2:=hide (k2.out.alloc (.cells #[.bool true,.int .i64 t1,.bool t2,.string nm] 90))
  replace hb:=hide (bl_alloc hb.out (.cells #[.bool true,.int .i64 t1,.bool t2,.string nm] 90))
  clear x0 y0 z0 z1' xt k5
  generalize w2.heap.size=g10 at *
  generalize w2.alloc (.cells #[.bool true,.int .i64 t1,.bool t2,.string nm] 90)=u9 at *
  have r4:=hide ((R.out _ hb.out).lp)
  have NE2:=NE.out
  clear R NE
  generalize b.lp=L at *
  refine wp_region_held_drew (S:=fun w'=>Hid (Ro w' (w.heap.size) (rs) 83)∧Hid (Ro w' (w.heap.size+1) (cs) 28)∧Hid (Ro w' (g10) (#[.bool true,.int .i64 t1,.bool t2,.string nm]) 90)∧Hid (Rk 2 w' A4 n4 (lcs L))∧Hid (Below w.heap.size w w')) (by kernel_rfl) (⟨hide k2.out.drew,hide k3.out.drew,hide k10.out.drew,hide r4.out.drew,hide (bl_drew hb.out)⟩) (fun hHeld=>?_)
  generalize u9.drew=u0 at *
  refine wpAnyH_takeD (i:=0) (d:=(some 50)) rfl rfl (by kernel_rfl) (by kernel_rfl) (by kernel_rfl) (fun _ _ _ h=>h) (yieldsIf_load_row (by rfl) 83 _ rfl (w.heap.size) rfl 83 rs _ (fun w hw=>hw.1.out) Tryz.underlying83 rfl GR.1) (by assumption) ?_
  try simp only [Act.put,sI1,sI2,sI3]
  refine tkV 1 (some 51) (v:=?_) ?_ ?_
  rotate_left
  ·((intro w hSw;go_simp) <;> with_reducible rfl)
  try simp only [Act.put,sI1,sI2,sI3]
  refine tkV 2 (some 52) (v:=?_) ?_ ?_
  rotate_left
  ·((intro w hSw;go_simp) <;> with_reducible rfl)
  try simp only [Act.put,sI1,sI2,sI3]
  refine tkV 3 (some 53) (v:=?_) ?_ ?_
  rotate_left
  ·((intro w hSw;obtain ⟨y4,_⟩:=ro_cf hSw.2.1.out 4 _ q4.out;go_simp) <;> with_reducible rfl)
  try simp only [Act.put,sI1,sI2,sI3]
  refine tkV 4 (some 54) (v:=?_) ?_ ?_
  rotate_left
  ·((intro w hSw;go_simp) <;> with_reducible rfl)
  try simp only [Act.put,sI1,sI2,sI3]
  refine wpAnyH_takeD (i:=8) (d:=(some 58)) rfl rfl (by kernel_rfl) (by kernel_rfl) (by kernel_rfl) (fun _ _ _ h=>h) (yieldsIf_load_row (by rfl) 90 _ rfl (g10) rfl 90 #[.bool true,.int .i64 t1,.bool t2,.string nm] _ (fun w hw=>hw.2.2.1.out) Tryz.underlying90 rfl (by kernel_rfl)) (by assumption) ?_
  try simp only [Act.put,sI1,sI2,sI3]
  refine wpAnyH_ready (rs:=[5]) (by kernel_rfl) (by simp) ?_
  refine AllReadyH.cons rfl (fun K hK=>?_) (AllReadyH.nil)
  go_simp
  refine (CR.out _ hHeld.2.2.2.1.out).mono ?_
  rintro e v1 ⟨rfl,h1'⟩
  refine hK.out _ _ (⟨hide (hHeld.1.out.below h1'),hide (hHeld.2.1.out.below h1'),hide (hHeld.2.2.1.out.below h1'),hide (hHeld.2.2.2.1.out.below h1'),hide (bel_next hHeld.2.2.2.2.out h1')⟩) (fun hHeld=>?_)
  clear hK K h1'
  try simp only [Act.put,sI1,sI2,sI3]
  refine wpAnyH_ready (rs:=[6]) (by kernel_rfl) (by simp) ?_
  refine AllReadyH.cons rfl (fun K hK=>?_) (AllReadyH.nil)
  go_simp
  refine (MN.out _).mono ?_
  rintro e v2 ⟨rfl,h1'⟩
  refine hK.out _ _ (⟨hide (hHeld.1.out.below h1'),hide (hHeld.2.1.out.below h1'),hide (hHeld.2.2.1.out.below h1'),hide (hHeld.2.2.2.1.out.below h1'),hide (bel_next hHeld.2.2.2.2.out h1')⟩) (fun hHeld=>?_)
  clear hK K h1'
  try simp only [Act.put,sI1,sI2,sI3]
  refine wpAnyH_ready (rs:=[7]) (by kernel_rfl) (by simp) ?_
  refine AllReadyH.cons rfl (fun K hK=>?_) (AllReadyH.nil)
  go_simp
  refine (AT.out _ (HT.out.below hHeld.2.2.2.2.out)).mono ?_
  rintro e v3 ⟨rfl,h1'⟩
  refine hK.out _ _ (⟨hide (hHeld.1.out.below h1'),hide (hHeld.2.1.out.below h1'),hide (hHeld.2.2.1.out.below h1'),hide (hHeld.2.2.2.1.out.below h1'),hide (bel_next hHeld.2.2.2.2.out h1')⟩) (fun hHeld=>?_)
  clear hK K h1'
  try simp only [Act.put,sI1,sI2,sI3]
  refine tkV 9 (some 59) (v:=?_) ?_ ?_
  rotate_left
  ·((intro w hSw;go_simp) <;> with_reducible rfl)
  try simp only [Act.put,sI1,sI2,sI3]
  refine tkV 10 (some 4) (v:=?_) ?_ ?_
  rotate_left
  ·((intro w hSw;go_simp) <;> with_reducible rfl)
  try simp only [Act.put,sI1,sI2,sI3]
  refine wpAnyH_done (by kernel_rfl) ?_ _
  go_wp2_with fail
  go_ret
  exact ⟨rfl,hHeld.2.2.2.2.out⟩
theorem fnz_2 (a b:Bool) (e f:Int) (he:e≠0):fnz [rq a e,rq b f]=if a=false then e else if b=true then 0 else f:=by
 cases a <;> cases b <;> simp [fnz,rq,he]
 intro h
 exact h.symm
theorem Footer (v:Int) (S S':BkS) (f:ByteArray) (B:Bk) (four:Bool) (w:World) (hT:Tb w) (h:IsBk w S' B) (hs:S'.small) (hf:f.size≤1000000) (hB:byt f≠[]→BOk B four 8) :
 Calls Tryz.prog 81 #[.agg (flA v S S' f)] w fun e w'=>e=.returned (.tuple #[.int .i64 (vF (byt f) v B).1,.int .i64 (vF (byt f) v B).2])∧Below w.heap.size w w':=by
 have R:=hide (fun W (hb:Below w.heap.size w W)=>h.below hb)
 have AG0:=hide (fun r W (hT:Tb W) (hok:prOk r) (h:IsBk W S' B) hn=>agrees r S' B four W hT hok h hs (hB hn))
 clear h hB
 have G:=gr_file v S S' f
 obtain ⟨⟨xA0,xn0,xc0⟩,⟨xA1,xn1,xc1⟩,⟨xA2,xn2,xc2⟩,⟨xA3,xn3,xc3⟩,⟨xA4,xn4,xc4⟩,⟨xA5,xn5,xc5⟩,⟨xA6,xn6,xc6⟩⟩:=S'
 dsimp only [blA] at R AG0
 obtain ⟨cs,hcs⟩:∃ cs,cs=flA v S ⟨⟨xA0,xn0,xc0⟩,⟨xA1,xn1,xc1⟩,⟨xA2,xn2,xc2⟩,⟨xA3,xn3,xc3⟩,⟨xA4,xn4,xc4⟩,⟨xA5,xn5,xc5⟩,⟨xA6,xn6,xc6⟩⟩ f:=⟨_,rfl⟩
 have q0:=hide (show cs[0]?=some (.int .i64 v) by rw [hcs];rfl)
 have q8:=hide (show cs[8]?=some (.slice xA0 xn0 xc0) by rw [hcs];rfl)
 have q9:=hide (show cs[9]?=some (.slice xA1 xn1 xc1) by rw [hcs];rfl)
 have q10:=hide (show cs[10]?=some (.slice xA2 xn2 xc2) by rw [hcs];rfl)
 have q11:=hide (show cs[11]?=some (.slice xA3 xn3 xc3) by rw [hcs];rfl)
 have q12:=hide (show cs[12]?=some (.slice xA4 xn4 xc4) by rw [hcs];rfl)
 have q13:=hide (show cs[13]?=some (.slice xA5 xn5 xc5) by rw [hcs];rfl)
 have q14:=hide (show cs[14]?=some (.slice xA6 xn6 xc6) by rw [hcs];rfl)
 have q15:=hide (show cs[15]?=some (.string f) by rw [hcs];rfl)
 rw [← hcs] at G ⊢
 clear hcs
 have HT:=hide hT
 have P:=hide (fun w=>po_.Parse f w hf)
 obtain ⟨X,hX⟩:∃ X,X=(vF (byt f) v B).1:=⟨_,rfl⟩
 obtain ⟨Y,hY⟩:∃ Y,Y=(vF (byt f) v B).2:=⟨_,rfl⟩
 rw [← hX,← hY]
 have hfe:=byt_nil f
 have k3:=hide (Ro.new w cs 30)
 have hb:=hide (bl_new w (.cells cs 30))
 clear hT
 by_cases e0:byt f=[]
 ·rw [decide_eq_true e0] at hfe
  obtain rfl:X=0:=by rw [hX];unfold vF;rw [if_pos e0]
  obtain rfl:Y=0:=by rw [hY];unfold vF;rw [if_pos e0]
  clear hX hY e0
  go_enter Tryz.func81,Tryz.ntmps81
  go_upto_region 1 with fail
  generalize (w.alloc (.cells cs 30))=u at *
  obtain ⟨y15,_⟩:=ro_cf k3.out 15 _ q15.out
  go_wp2_with fail
  go_ret2
  exact ⟨rfl,hb.out⟩
 rw [decide_eq_false e0] at hfe
 rcases hr:ptParse (byt f) with a | r
 ·rw [hr] at P
  simp only [ptRes,vrule_c] at P
  have G2:=gr_rule ⟨#[]⟩ 0 false ⟨#[]⟩ 0 rd0 rd0
  generalize crule ⟨#[]⟩ 0 false ⟨#[]⟩ 0 rd0 rd0=rs at *
  obtain rfl:X=14:=by rw [hX];unfold vF;rw [if_neg e0,hr]
  obtain rfl:Y=(a:Int):=by rw [hY];unfold vF;rw [if_neg e0,hr]
  clear hr hX hY e0
  go_enter Tryz.func81,Tryz.ntmps81
  go_upto_region 1 with fail
  generalize (w.alloc (.cells cs 30))=u at *
  obtain ⟨y15,_⟩:=ro_cf k3.out 15 _ q15.out
  go_wp2_with fail
  refine (P.out _).mono ?_
  rintro e w1 ⟨rfl,h1⟩
  replace hb:=hide (bl_alloc (bel_next hb.out h1) (.cells rs 83))
  clear h1 y15 k3
  go_wp2_with (first | (refine wpList_store_row rfl 83 _ _ rfl _ _ rfl rfl _ _ (heap_alloc_last _ _) G2.1 (by rw [G2.2.1];rfl) G2.2.2 ?_;rw [World.setRow_alloc_new]))
  go_ret2
  exact ⟨rfl,hb.out⟩
 have hok:=ptParse_ok hr
 rw [hr] at P
 replace hX:X=vFr r v B:=by rw [hX];unfold vF;rw [if_neg e0,hr]
 obtain rfl:Y=0:=by rw [hY];unfold vF;rw [if_neg e0,hr]
 have AG:=hide (fun W hT h=>AG0.out r W hT hok h e0)
 clear hr hY e0 AG0
 have E:=hide (fun w=>tf_.Extended (mkS r.1) r.2.1 r.2.2.1 (mkS r.2.2.2.1) r.2.2.2.2.1 r.2.2.2.2.2.1 r.2.2.2.2.2.2 w (by rw [byt_mk,byt_mk];exact hok))
 rw [vrule_c] at E
 simp only [ptRes,vrule_c] at P
 have G2:=gr_rule (mkS r.1) r.2.1 r.2.2.1 (mkS r.2.2.2.1) r.2.2.2.2.1 r.2.2.2.2.2.1 r.2.2.2.2.2.2
 unfold vFr at hX
 obtain ⟨ex,hex⟩:∃ ex,ex=exR r:=⟨_,rfl⟩
 rw [← hex] at hX
 unfold exR at hex
 rw [← hex] at E
 generalize crule (mkS r.1) r.2.1 r.2.2.1 (mkS r.2.2.2.1) r.2.2.2.2.1 r.2.2.2.2.2.1 r.2.2.2.2.2.2=rs at *
 have hX2:X=if v=2∧ex=true then 16 else if (decide (B.ti.length=0) || agB r B)=true then 0 else 15:=by
  rw [hX]
  by_cases z:B.ti.length=0 <;> simp [z]
 clear hX hex hok
 generalize (decide (B.ti.length=0) || agB r B)=ag at *
 have C2:=hide (fun w=>require ag 15 w)
 have k3:=k3
 go_enter Tryz.func81,Tryz.ntmps81
 go_upto_region 1 with fail
 generalize (w.alloc (.cells cs 30))=u at *
 obtain ⟨y15,_⟩:=ro_cf k3.out 15 _ q15.out
 replace hX2:=hide hX2
 go_wp2_with fail
 refine (P.out _).mono ?_
 rintro e w1 ⟨rfl,h1⟩
 have k4:=hide (Ro.new w1 rs 83)
 replace hb:=hide (bl_alloc (bel_next hb.out h1) (.cells rs 83))
 replace k3:=hide ((k3.out.below h1).alloc (.cells rs 83))
 clear h1 y15 P
 go_upto_region 4 with (first | (refine wpList_store_row rfl 83 _ _ rfl _ _ rfl rfl _ _ (heap_alloc_last _ _) G2.1 (by rw [G2.2.1];rfl) G2.2.2 ?_;rw [World.setRow_alloc_new]))
 generalize w1.heap.size=gb at *
 generalize (w1.alloc (.cells rs 83))=u1 at *
 have iB:=hide (R.out _ hb.out)
 clear R
 by_cases hv:v=2
 ·have d1:(v != 2)=false:=by simpa using hv
  have d2:decide (v=2)=true:=decide_eq_true hv
  have C1:=hide (fun w=>require (!ex) 16 w)
  have O:=hide (fun B w (h:Ro w B #[.int .i64 (rq (!ex) 16),.int .i64 (rq ag 15)] 33)=>or_ [rq (!ex) 16,rq ag 15] 2 B w (rd_roV (cs:=[.int .i64 (rq (!ex) 16),.int .i64 (rq ag 15)]) h) (by decide))
  rw [fnz_2 _ _ _ _ (by decide)] at O
  replace hX2:X=if (!ex)=false then 16 else if ag=true then 0 else 15:=by rw [hX2.out];cases ex <;> simp [hv]
  rw [← hX2] at O
  clear hX2
  generalize rq (!ex) 16=x1 at *
  generalize rq ag 15=x2 at *
  replace hv:=hide hv
  go_upto_region 6 with fail
  refine wp_region_held_drew (S:=fun w'=>Hid (Ro w' (w.heap.size) (cs) 30)∧Hid (Ro w' (gb) (rs) 83)∧Hid (IsBk w' ⟨⟨xA0,xn0,xc0⟩,⟨xA1,xn1,xc1⟩,⟨xA2,xn2,xc2⟩,⟨xA3,xn3,xc3⟩,⟨xA4,xn4,xc4⟩,⟨xA5,xn5,xc5⟩,⟨xA6,xn6,xc6⟩⟩ B)∧Hid (Below w.heap.size w w')) (by kernel_rfl) (⟨hide k3.out.drew,hide k4.out.drew,hide iB.out.drew,hide (bl_drew hb.out)⟩) (fun hHeld=>?_)
  generalize u1.drew=u0 at *
  refine tkV 0 (some 21) (v:=?_) ?_ ?_
  rotate_left
  ·((intro w hSw;go_simp) <;> with_reducible rfl)
  try simp only [Act.put,sI1,sI2,sI3]
  refine tkV 1 (some 22) (v:=?_) ?_ ?_
  rotate_left
  ·((intro w hSw;obtain ⟨y0,_⟩:=ro_cf hSw.1.out 0 _ q0.out;go_simp) <;> with_reducible rfl)
  try simp only [Act.put,sI1,sI2,sI3]
  refine tkV 2 (some 23) (v:=?_) ?_ ?_
  rotate_left
  ·((intro w hSw;go_simp) <;> with_reducible rfl)
  try simp only [Act.put,sI1,sI2,sI3]
  refine tkV 3 (some 24) (v:=?_) ?_ ?_
  rotate_left
  ·((intro w hSw;go_simp) <;> with_reducible rfl)
  try simp only [Act.put,sI1,sI2,sI3]
  refine wpAnyH_takeD (i:=4) (d:=(some 25)) rfl rfl (by kernel_rfl) (by kernel_rfl) (by kernel_rfl) (fun _ _ _ h=>h) (yieldsIf_load_row (by rfl) 83 _ rfl (gb) rfl 83 rs _ (fun w hw=>hw.2.1.out) Tryz.underlying83 rfl G2.1) (by assumption) ?_
  try simp only [Act.put,sI1,sI2,sI3]
  refine wpAnyH_takeD (i:=9) (d:=(some 30)) rfl rfl (by kernel_rfl) (by kernel_rfl) (by kernel_rfl) (fun _ _ _ h=>h) (yieldsIf_load_row (by rfl) 83 _ rfl (gb) rfl 83 rs _ (fun w hw=>hw.2.1.out) Tryz.underlying83 rfl G2.1) (by assumption) ?_
  try simp only [Act.put,sI1,sI2,sI3]
  refine tkV 10 (some 31) (v:=?_) ?_ ?_
  rotate_left
  ·((intro w hSw;go_simp) <;> with_reducible rfl)
  try simp only [Act.put,sI1,sI2,sI3]
  refine tkV 11 (some 32) (v:=?_) ?_ ?_
  rotate_left
  ·((intro w hSw;obtain ⟨y8,_⟩:=ro_cf hSw.1.out 8 _ q8.out;obtain ⟨y9,_⟩:=ro_cf hSw.1.out 9 _ q9.out;obtain ⟨y10,_⟩:=ro_cf hSw.1.out 10 _ q10.out;obtain ⟨y11,_⟩:=ro_cf hSw.1.out 11 _ q11.out;obtain ⟨y12,_⟩:=ro_cf hSw.1.out 12 _ q12.out;obtain ⟨y13,_⟩:=ro_cf hSw.1.out 13 _ q13.out;obtain ⟨y14,_⟩:=ro_cf hSw.1.out 14 _ q14.out;go_simp) <;> with_reducible rfl)
  try simp only [Act.put,sI1,sI2,sI3]
  refine wpAnyH_ready (rs:=[5]) (by kernel_rfl) (by simp) ?_
  refine AllReadyH.cons rfl (fun K hK=>?_) (AllReadyH.nil)
  go_simp
  refine (E.out _).mono ?_
  rintro e v1 ⟨rfl,h1'⟩
  refine hK.out _ _ (⟨hide (hHeld.1.out.below h1'),hide (hHeld.2.1.out.below h1'),hide (hHeld.2.2.1.out.below h1'),hide (bel_next hHeld.2.2.2.out h1')⟩) (fun hHeld=>?_)
  clear hK K h1'
  try simp only [Act.put,sI1,sI2,sI3]
  refine tkV 6 (some 27) (v:=?_) ?_ ?_
  rotate_left
  ·((intro w hSw;go_simp) <;> with_reducible rfl)
  try simp only [Act.put,sI1,sI2,sI3]
  refine tkV 7 (some 28) (v:=?_) ?_ ?_
  rotate_left
  ·((intro w hSw;go_simp) <;> with_reducible rfl)
  try simp only [Act.put,sI1,sI2,sI3]
  refine wpAnyH_ready (rs:=[8]) (by kernel_rfl) (by simp) ?_
  refine AllReadyH.cons rfl (fun K hK=>?_) (AllReadyH.nil)
  go_simp
  refine (C1.out _).mono ?_
  rintro e v2 ⟨rfl,h1'⟩
  refine hK.out _ _ (⟨hide (hHeld.1.out.below h1'),hide (hHeld.2.1.out.below h1'),hide (hHeld.2.2.1.out.below h1'),hide (bel_next hHeld.2.2.2.out h1')⟩) (fun hHeld=>?_)
  clear hK K h1'
  try simp only [Act.put,sI1,sI2,sI3]
  refine wpAnyH_ready (rs:=[12]) (by kernel_rfl) (by simp) ?_
  refine AllReadyH.cons rfl (fun K hK=>?_) (AllReadyH.nil)
  go_simp
  refine (AG.out _ (HT.out.below hHeld.2.2.2.out) hHeld.2.2.1.out).mono ?_
  rintro e v3 ⟨rfl,h1'⟩
  refine hK.out _ _ (⟨hide (hHeld.1.out.below h1'),hide (hHeld.2.1.out.below h1'),hide (hHeld.2.2.1.out.below h1'),hide (bel_next hHeld.2.2.2.out h1')⟩) (fun hHeld=>?_)
  clear hK K h1'
  try simp only [Act.put,sI1,sI2,sI3]
  refine wpAnyH_ready (rs:=[13]) (by kernel_rfl) (by simp) ?_
  refine AllReadyH.cons rfl (fun K hK=>?_) (AllReadyH.nil)
  go_simp
  refine (C2.out _).mono ?_
  rintro e v4 ⟨rfl,h1'⟩
  refine hK.out _ _ (⟨hide (hHeld.1.out.below h1'),hide (hHeld.2.1.out.below h1'),hide (hHeld.2.2.1.out.below h1'),hide (bel_next hHeld.2.2.2.out h1')⟩) (fun hHeld=>?_)
  clear hK K h1'
  try simp only [Act.put,sI1,sI2,sI3]
  refine wpAnyH_ready (rs:=[14]) (by kernel_rfl) (by simp) ?_
  refine AllReadyH.cons rfl (fun K hK=>?_) (AllReadyH.nil)
  go_simp
  have hz_s:=hide (Ro.new v4 #[.int .i64 x1,.int .i64 x2] 33)
  refine hK.out _ _ (⟨hide (hHeld.1.out.alloc _),hide (hHeld.2.1.out.alloc _),hide (hHeld.2.2.1.out.below (bl_new _ (.cells #[.int .i64 x1,.int .i64 x2] 33))),hide (bl_alloc hHeld.2.2.2.out _)⟩) (fun hHeld=>?_)
  clear hK K
  generalize v4.heap.size=g_s at *
  generalize v4.alloc (.cells #[.int .i64 x1,.int .i64 x2] 33)=v5 at *
  try simp only [Act.put,sI1,sI2,sI3]
  refine wpAnyH_ready (rs:=[15]) (by kernel_rfl) (by simp) ?_
  refine AllReadyH.cons rfl (fun K hK=>?_) (AllReadyH.nil)
  go_simp
  refine (O.out g_s _ hz_s.out).mono ?_
  rintro e v6 ⟨rfl,h1'⟩
  replace hz_s:=hide (hz_s.out.below h1')
  refine hK.out _ _ (⟨hide (hHeld.1.out.below h1'),hide (hHeld.2.1.out.below h1'),hide (hHeld.2.2.1.out.below h1'),hide (bel_next hHeld.2.2.2.out h1')⟩) (fun hHeld=>?_)
  clear hK K h1'
  try simp only [Act.put,sI1,sI2,sI3]
  refine tkV 16 (some 2) (v:=?_) ?_ ?_
  rotate_left
  ·((intro w hSw;go_simp) <;> with_reducible rfl)
  try simp only [Act.put,sI1,sI2,sI3]
  refine tkV 17 (some 3) (v:=?_) ?_ ?_
  rotate_left
  ·((intro w hSw;go_simp) <;> with_reducible rfl)
  try simp only [Act.put,sI1,sI2,sI3]
  refine wpAnyH_done (by kernel_rfl) ?_ _
  go_wp2_with fail
  go_ret2
  exact ⟨rfl,hHeld.2.2.2.out⟩
 ·have d1:(v != 2)=true:=by simpa using hv
  have d2:decide (v=2)=false:=decide_eq_false hv
  have C1:=hide (fun w=>require true 16 w)
  have O:=hide (fun B w (h:Ro w B #[.int .i64 (rq true 16),.int .i64 (rq ag 15)] 33)=>or_ [rq true 16,rq ag 15] 2 B w (rd_roV (cs:=[.int .i64 (rq true 16),.int .i64 (rq ag 15)]) h) (by decide))
  rw [fnz_2 _ _ _ _ (by decide)] at O
  replace hX2:X=if true=false then 16 else if ag=true then 0 else 15:=by rw [hX2.out];simp [hv]
  rw [← hX2] at O
  clear hX2
  generalize rq true 16=x1 at *
  generalize rq ag 15=x2 at *
  replace hv:=hide hv
  go_upto_region 6 with fail
  refine wp_region_held_drew (S:=fun w'=>Hid (Ro w' (w.heap.size) (cs) 30)∧Hid (Ro w' (gb) (rs) 83)∧Hid (IsBk w' ⟨⟨xA0,xn0,xc0⟩,⟨xA1,xn1,xc1⟩,⟨xA2,xn2,xc2⟩,⟨xA3,xn3,xc3⟩,⟨xA4,xn4,xc4⟩,⟨xA5,xn5,xc5⟩,⟨xA6,xn6,xc6⟩⟩ B)∧Hid (Below w.heap.size w w')) (by kernel_rfl) (⟨hide k3.out.drew,hide k4.out.drew,hide iB.out.drew,hide (bl_drew hb.out)⟩) (fun hHeld=>?_)
  generalize u1.drew=u0 at *
  refine tkV 0 (some 21) (v:=?_) ?_ ?_
  rotate_left
  ·((intro w hSw;go_simp) <;> with_reducible rfl)
  try simp only [Act.put,sI1,sI2,sI3]
  refine tkV 1 (some 22) (v:=?_) ?_ ?_
  rotate_left
  ·((intro w hSw;obtain ⟨y0,_⟩:=ro_cf hSw.1.out 0 _ q0.out;go_simp) <;> with_reducible rfl)
  try simp only [Act.put,sI1,sI2,sI3]
  refine tkV 2 (some 23) (v:=?_) ?_ ?_
  rotate_left
  ·((intro w hSw;go_simp) <;> with_reducible rfl)
  try simp only [Act.put,sI1,sI2,sI3]
  refine tkV 3 (some 24) (v:=?_) ?_ ?_
  rotate_left
  ·((intro w hSw;go_simp) <;> with_reducible rfl)
  try simp only [Act.put,sI1,sI2,sI3]
  refine tkN 4 (some 25) ?_
  try simp only [Act.put,sI1,sI2,sI3]
  refine tkN 5 (some 26) ?_
  try simp only [Act.put,sI1,sI2,sI3]
  refine tkN 6 (some 27) ?_
  try simp only [Act.put,sI1,sI2,sI3]
  refine tkV 7 (some 28) (v:=?_) ?_ ?_
  rotate_left
  ·((intro w hSw;go_simp) <;> with_reducible rfl)
  try simp only [Act.put,sI1,sI2,sI3]
  refine wpAnyH_takeD (i:=9) (d:=(some 30)) rfl rfl (by kernel_rfl) (by kernel_rfl) (by kernel_rfl) (fun _ _ _ h=>h) (yieldsIf_load_row (by rfl) 83 _ rfl (gb) rfl 83 rs _ (fun w hw=>hw.2.1.out) Tryz.underlying83 rfl G2.1) (by assumption) ?_
  try simp only [Act.put,sI1,sI2,sI3]
  refine tkV 10 (some 31) (v:=?_) ?_ ?_
  rotate_left
  ·((intro w hSw;go_simp) <;> with_reducible rfl)
  try simp only [Act.put,sI1,sI2,sI3]
  refine tkV 11 (some 32) (v:=?_) ?_ ?_
  rotate_left
  ·((intro w hSw;obtain ⟨y8,_⟩:=ro_cf hSw.1.out 8 _ q8.out;obtain ⟨y9,_⟩:=ro_cf hSw.1.out 9 _ q9.out;obtain ⟨y10,_⟩:=ro_cf hSw.1.out 10 _ q10.out;obtain ⟨y11,_⟩:=ro_cf hSw.1.out 11 _ q11.out;obtain ⟨y12,_⟩:=ro_cf hSw.1.out 12 _ q12.out;obtain ⟨y13,_⟩:=ro_cf hSw.1.out 13 _ q13.out;obtain ⟨y14,_⟩:=ro_cf hSw.1.out 14 _ q14.out;go_simp) <;> with_reducible rfl)
  try simp only [Act.put,sI1,sI2,sI3]
  refine wpAnyH_ready (rs:=[8]) (by kernel_rfl) (by simp) ?_
  refine AllReadyH.cons rfl (fun K hK=>?_) (AllReadyH.nil)
  go_simp
  refine (C1.out _).mono ?_
  rintro e v1 ⟨rfl,h1'⟩
  refine hK.out _ _ (⟨hide (hHeld.1.out.below h1'),hide (hHeld.2.1.out.below h1'),hide (hHeld.2.2.1.out.below h1'),hide (bel_next hHeld.2.2.2.out h1')⟩) (fun hHeld=>?_)
  clear hK K h1'
  try simp only [Act.put,sI1,sI2,sI3]
  refine wpAnyH_ready (rs:=[12]) (by kernel_rfl) (by simp) ?_
  refine AllReadyH.cons rfl (fun K hK=>?_) (AllReadyH.nil)
  go_simp
  refine (AG.out _ (HT.out.below hHeld.2.2.2.out) hHeld.2.2.1.out).mono ?_
  rintro e v2 ⟨rfl,h1'⟩
  refine hK.out _ _ (⟨hide (hHeld.1.out.below h1'),hide (hHeld.2.1.out.below h1'),hide (hHeld.2.2.1.out.below h1'),hide (bel_next hHeld.2.2.2.out h1')⟩) (fun hHeld=>?_)
  clear hK K h1'
  try simp only [Act.put,sI1,sI2,sI3]
  refine wpAnyH_ready (rs:=[13]) (by kernel_rfl) (by simp) ?_
  refine AllReadyH.cons rfl (fun K hK=>?_) (AllReadyH.nil)
  go_simp
  refine (C2.out _).mono ?_
  rintro e v3 ⟨rfl,h1'⟩
  refine hK.out _ _ (⟨hide (hHeld.1.out.below h1'),hide (hHeld.2.1.out.below h1'),hide (hHeld.2.2.1.out.below h1'),hide (bel_next hHeld.2.2.2.out h1')⟩) (fun hHeld=>?_)
  clear hK K h1'
  try simp only [Act.put,sI1,sI2,sI3]
  refine wpAnyH_ready (rs:=[14]) (by kernel_rfl) (by simp) ?_
  refine AllReadyH.cons rfl (fun K hK=>?_) (AllReadyH.nil)
  go_simp
  have hz_s:=hide (Ro.new v3 #[.int .i64 x1,.int .i64 x2] 33)
  refine hK.out _ _ (⟨hide (hHeld.1.out.alloc _),hide (hHeld.2.1.out.alloc _),hide (hHeld.2.2.1.out.below (bl_new _ (.cells #[.int .i64 x1,.int .i64 x2] 33))),hide (bl_alloc hHeld.2.2.2.out _)⟩) (fun hHeld=>?_)
  clear hK K
  generalize v3.heap.size=g_s at *
  generalize v3.alloc (.cells #[.int .i64 x1,.int .i64 x2] 33)=v4 at *
  try simp only [Act.put,sI1,sI2,sI3]
  refine wpAnyH_ready (rs:=[15]) (by kernel_rfl) (by simp) ?_
  refine AllReadyH.cons rfl (fun K hK=>?_) (AllReadyH.nil)
  go_simp
  refine (O.out g_s _ hz_s.out).mono ?_
  rintro e v5 ⟨rfl,h1'⟩
  replace hz_s:=hide (hz_s.out.below h1')
  refine hK.out _ _ (⟨hide (hHeld.1.out.below h1'),hide (hHeld.2.1.out.below h1'),hide (hHeld.2.2.1.out.below h1'),hide (bel_next hHeld.2.2.2.out h1')⟩) (fun hHeld=>?_)
  clear hK K h1'
  try simp only [Act.put,sI1,sI2,sI3]
  refine tkV 16 (some 2) (v:=?_) ?_ ?_
  rotate_left
  ·((intro w hSw;go_simp) <;> with_reducible rfl)
  try simp only [Act.put,sI1,sI2,sI3]
  refine tkV 17 (some 3) (v:=?_) ?_ ?_
  rotate_left
  ·((intro w hSw;go_simp) <;> with_reducible rfl)
  try simp only [Act.put,sI1,sI2,sI3]
  refine wpAnyH_done (by kernel_rfl) ?_ _
  go_wp2_with fail
  go_ret2
  exact ⟨rfl,hHeld.2.2.2.out⟩
theorem isZero (S:BkS) (w:World) (hs:S.small):Calls Tryz.prog 151 #[.agg (blA S)] w fun e w'=>e=.returned (.bool (decide (S.ti.n+S.ix.n+S.ty.n+S.ch.n+S.lp.n+S.sd.n+S.ut.n=0)))∧Below w.heap.size w w':=by
 obtain ⟨⟨A0,n0,c0⟩,⟨A1,n1,c1⟩,⟨A2,n2,c2⟩,⟨A3,n3,c3⟩,⟨A4,n4,c4⟩,⟨A5,n5,c5⟩,⟨A6,n6,c6⟩⟩:=S
 obtain ⟨t0,t1,t2,t3,t4,t5,t6⟩:=hs
 dsimp only [blA] at *
 obtain ⟨s1,e1⟩:∃ s:Int,s=(n0:Int)+(n1:Int):=⟨_,rfl⟩
 have w1:IntKind.i64.wrap ((n0:Int)+(n1:Int))=s1:=by rw [IntKind.wrap_i64];omega
 obtain ⟨s2,e2⟩:∃ s:Int,s=s1+(n2:Int):=⟨_,rfl⟩
 have w2:IntKind.i64.wrap (s1+(n2:Int))=s2:=by rw [IntKind.wrap_i64];omega
 obtain ⟨s3,e3⟩:∃ s:Int,s=s2+(n3:Int):=⟨_,rfl⟩
 have w3:IntKind.i64.wrap (s2+(n3:Int))=s3:=by rw [IntKind.wrap_i64];omega
 obtain ⟨s4,e4⟩:∃ s:Int,s=s3+(n4:Int):=⟨_,rfl⟩
 have w4:IntKind.i64.wrap (s3+(n4:Int))=s4:=by rw [IntKind.wrap_i64];omega
 obtain ⟨s5,e5⟩:∃ s:Int,s=s4+(n5:Int):=⟨_,rfl⟩
 have w5:IntKind.i64.wrap (s4+(n5:Int))=s5:=by rw [IntKind.wrap_i64];omega
 obtain ⟨s6,e6⟩:∃ s:Int,s=s5+(n6:Int):=⟨_,rfl⟩
 have w6:IntKind.i64.wrap (s5+(n6:Int))=s6:=by rw [IntKind.wrap_i64];omega
 obtain ⟨z,hz⟩:∃ z,z=decide (n0+n1+n2+n3+n4+n5+n6=0):=⟨_,rfl⟩
 rw [← hz]
 have z1:decide (s6=0)=z:=by rw [hz,decide_eq_decide];omega
 have z2:(s6 == 0)=z:=by rw [← z1];rfl
 clear hz e1 e2 e3 e4 e5 e6
 have hb:=hide (bl_new w (.cells #[.slice A0 n0 c0,.slice A1 n1 c1,.slice A2 n2 c2,.slice A3 n3 c3,.slice A4 n4 c4,.slice A5 n5 c5,.slice A6 n6 c6] 28))
 have k3:=hide (Ro.new w #[.slice A0 n0 c0,.slice A1 n1 c1,.slice A2 n2 c2,.slice A3 n3 c3,.slice A4 n4 c4,.slice A5 n5 c5,.slice A6 n6 c6] 28)
 go_enter Tryz.func151,Tryz.ntmps151
 go_upto_region 1 with fail
 generalize (w.alloc (.cells #[.slice A0 n0 c0,.slice A1 n1 c1,.slice A2 n2 c2,.slice A3 n3 c3,.slice A4 n4 c4,.slice A5 n5 c5,.slice A6 n6 c6] 28))=u at *
 obtain ⟨y0,_⟩:=ro_cf k3.out 0 _ rfl
 obtain ⟨y1,_⟩:=ro_cf k3.out 1 _ rfl
 obtain ⟨y2,_⟩:=ro_cf k3.out 2 _ rfl
 obtain ⟨y3,_⟩:=ro_cf k3.out 3 _ rfl
 obtain ⟨y4,_⟩:=ro_cf k3.out 4 _ rfl
 obtain ⟨y5,_⟩:=ro_cf k3.out 5 _ rfl
 obtain ⟨y6,_⟩:=ro_cf k3.out 6 _ rfl
 go_wp2
 go_ret
 exact ⟨rfl,hb.out⟩
theorem checkV2 (v:Int) (S S':BkS) (f:ByteArray) (B:Bk) (four:Bool) (w:World) (hv0:1≤v) (hv1:v≤4) (hf:decide (v=4)=four) (h:IsBk w S' B) (hs:S'.small) (hI:Ti w:=by trivial) :
 Calls Tryz.prog 107 #[.agg (flA v S S' f)] w fun e w'=>e=.returned (.int .i64 (if v=1 then rq (zB B && decide (byt f=[])) 18 else vB B four 8))∧Below w.heap.size w w':=by
 have BC:=hide (fun W (hb:Below w.heap.size w W)=>Block S' B v four 8 8 W rfl (.inr rfl) hv0 hv1 hf (h.below hb) hs (hI.below hb))
 have IZ:=hide (fun W=>isZero S' W hs)
 have hzb:zB B=decide (S'.ti.n+S'.ix.n+S'.ty.n+S'.ch.n+S'.lp.n+S'.sd.n+S'.ut.n=0):=by
  obtain ⟨l0,l1,l2,l3,l4,l5,l6⟩:=h.lens
  unfold zB
  rw [l0,l1,l2,l3,l4,l5,l6]
 rw [← hzb] at IZ
 clear h hs hf hv0 hv1 hzb hI
 obtain ⟨⟨xA0,xn0,xc0⟩,⟨xA1,xn1,xc1⟩,⟨xA2,xn2,xc2⟩,⟨xA3,xn3,xc3⟩,⟨xA4,xn4,xc4⟩,⟨xA5,xn5,xc5⟩,⟨xA6,xn6,xc6⟩⟩:=S'
 dsimp only [blA] at *
 obtain ⟨cs,hcs⟩:∃ cs,cs=flA v S ⟨⟨xA0,xn0,xc0⟩,⟨xA1,xn1,xc1⟩,⟨xA2,xn2,xc2⟩,⟨xA3,xn3,xc3⟩,⟨xA4,xn4,xc4⟩,⟨xA5,xn5,xc5⟩,⟨xA6,xn6,xc6⟩⟩ f:=⟨_,rfl⟩
 have q0:=hide (show cs[0]?=some (.int .i64 v) by rw [hcs];rfl)
 have q8:=hide (show cs[8]?=some (.slice xA0 xn0 xc0) by rw [hcs];rfl)
 have q9:=hide (show cs[9]?=some (.slice xA1 xn1 xc1) by rw [hcs];rfl)
 have q10:=hide (show cs[10]?=some (.slice xA2 xn2 xc2) by rw [hcs];rfl)
 have q11:=hide (show cs[11]?=some (.slice xA3 xn3 xc3) by rw [hcs];rfl)
 have q12:=hide (show cs[12]?=some (.slice xA4 xn4 xc4) by rw [hcs];rfl)
 have q13:=hide (show cs[13]?=some (.slice xA5 xn5 xc5) by rw [hcs];rfl)
 have q14:=hide (show cs[14]?=some (.slice xA6 xn6 xc6) by rw [hcs];rfl)
 have q15:=hide (show cs[15]?=some (.string f) by rw [hcs];rfl)
 dsimp only [bkV] at BC
 rw [← hcs]
 clear hcs
 have hz:=byt_nil f
 obtain ⟨X,hX⟩:∃ X,X=(if v=1 then rq (zB B && decide (byt f=[])) 18 else vB B four 8):=⟨_,rfl⟩
 rw [← hX]
 generalize decide (byt f=[])=ze at *
 generalize zB B=zb at *
 generalize vB B four 8=e1 at *
 have k3:=hide (Ro.new w cs 30)
 have hb:=hide (bl_new w (.cells cs 30))
 by_cases v2:v=1
 ·rw [if_pos v2] at hX
  have dv:(v == 1)=true:=by simpa using v2
  have dv':decide (v=1)=true:=decide_eq_true v2
  replace v2:=hide v2
  have RQ:=hide (fun w=>require (zb && ze) 18 w)
  rw [← hX] at RQ
  clear hX BC
  cases zb
  all_goals
   simp only [Bool.true_and,Bool.false_and] at RQ
   go_enter Tryz.func107,Tryz.ntmps107
   go_upto_region 1 with fail
   generalize (w.alloc (.cells cs 30))=u at *
   obtain ⟨y0,_⟩:=ro_cf k3.out 0 _ q0.out
   obtain ⟨y8,_⟩:=ro_cf k3.out 8 _ q8.out
   obtain ⟨y9,_⟩:=ro_cf k3.out 9 _ q9.out
   obtain ⟨y10,_⟩:=ro_cf k3.out 10 _ q10.out
   obtain ⟨y11,_⟩:=ro_cf k3.out 11 _ q11.out
   obtain ⟨y12,_⟩:=ro_cf k3.out 12 _ q12.out
   obtain ⟨y13,_⟩:=ro_cf k3.out 13 _ q13.out
   obtain ⟨y14,_⟩:=ro_cf k3.out 14 _ q14.out
   obtain ⟨y15,_⟩:=ro_cf k3.out 15 _ q15.out
   go_wp2_with fail
   refine (IZ.out _).mono ?_
   rintro e w1 ⟨rfl,h1⟩
   replace k3:=hide (k3.out.below h1)
   replace hb:=hide (bel_next hb.out h1)
   clear h1 y15 y0 y8 y9 y10 y11 y12 y13 y14
   obtain ⟨y15,_⟩:=ro_cf k3.out 15 _ q15.out
   go_wp2_with fail
   refine (RQ.out _).mono ?_
   rintro e w2 ⟨rfl,h1⟩
   replace hb:=hide (bel_next hb.out h1)
   clear h1 y15
   go_wp2
   go_ret
   exact ⟨rfl,hb.out⟩
 ·rw [if_neg v2] at hX
  subst hX
  have dv:(v == 1)=false:=by simpa using v2
  have dv':decide (v=1)=false:=decide_eq_false v2
  replace v2:=hide v2
  go_enter Tryz.func107,Tryz.ntmps107
  go_upto_region 1 with fail
  generalize (w.alloc (.cells cs 30))=u at *
  obtain ⟨y0,_⟩:=ro_cf k3.out 0 _ q0.out
  obtain ⟨y8,_⟩:=ro_cf k3.out 8 _ q8.out
  obtain ⟨y9,_⟩:=ro_cf k3.out 9 _ q9.out
  obtain ⟨y10,_⟩:=ro_cf k3.out 10 _ q10.out
  obtain ⟨y11,_⟩:=ro_cf k3.out 11 _ q11.out
  obtain ⟨y12,_⟩:=ro_cf k3.out 12 _ q12.out
  obtain ⟨y13,_⟩:=ro_cf k3.out 13 _ q13.out
  obtain ⟨y14,_⟩:=ro_cf k3.out 14 _ q14.out
  go_wp2_with fail
  refine (BC.out _ hb.out).mono ?_
  rintro e w1 ⟨rfl,h1⟩
  replace hb:=hide (bel_next hb.out h1)
  clear h1 y0 y8 y9 y10 y11 y12 y13 y14
  go_wp2
  go_ret
  exact ⟨rfl,hb.out⟩
theorem checkFooter (v:Int) (S S':BkS) (f:ByteArray) (B:Bk) (four:Bool) (w:World) (hT:Tb w) (h:IsBk w S' B) (hs:S'.small) (hf:f.size≤1000000) (hB:byt f≠[]→BOk B four 8) :
 Calls Tryz.prog 109 #[.agg (flA v S S' f)] w fun e w'=>e=.returned (.int .i64 (vF (byt f) v B).1)∧Below w.heap.size w w':=by
 have C:=hide (fun W (hb:Below w.heap.size w W)=>Footer v S S' f B four W (hT.below hb) (h.below hb) hs hf hB)
 have G:=gr_file v S S' f
 generalize vF (byt f) v B=p at *
 generalize flA v S S' f=cs at *
 clear h hs hB hT
 have k3:=hide (Ro.new w cs 30)
 have hb:=hide (bl_new w (.cells cs 30))
 go_enter Tryz.func109,Tryz.ntmps109
 go_upto_region 1 with fail
 generalize (w.alloc (.cells cs 30))=u at *
 go_wp2_with (refine load_row_g (by rfl) 30 _ rfl _ rfl _ _ _ k3.out Tryz.underlying30 rfl G.1 ?_)
 refine (C.out _ hb.out).mono ?_
 rintro e w1 ⟨rfl,h1⟩
 replace hb:=hide (bel_next hb.out h1)
 clear h1 C k3
 go_wp2
 go_ret
 exact ⟨rfl,hb.out⟩
theorem frule1 (v:Int) (S S':BkS) (f:ByteArray) (g:Nat) (w:World) (k:Ro w g (flA v S S' f) 30) :
 Calls Tryz.prog 103 #[.pointer (some ⟨g,0,none⟩)] w fun e w'=>e=.returned (.int .i64 (rq (decide (1≤v) && decide (v≤4)) 4))∧Below w.heap.size w w':=by
 obtain ⟨y0,_⟩:=ro_cf k 0 (.int .i64 v) rfl
 have RQ:=hide (fun w=>require (decide (1≤v) && decide (v≤4)) 4 w)
 generalize rq (decide (1≤v) && decide (v≤4)) 4=X at *
 clear k
 by_cases a:1≤v
 ·have da:decide (1≤v)=true:=decide_eq_true a
  rw [da] at RQ
  generalize hc:decide (v≤4)=c at *
  replace a:=hide a
  go_enter Tryz.func103,Tryz.ntmps103
  go_wp2_with fail
  refine (RQ.out _).mono ?_
  rintro e w1 ⟨rfl,h1⟩
  go_wp2
  go_ret
  exact ⟨rfl,h1⟩
 ·have da:decide (1≤v)=false:=decide_eq_false a
  rw [da] at RQ
  replace a:=hide a
  go_enter Tryz.func103,Tryz.ntmps103
  go_wp2_with fail
  refine (RQ.out _).mono ?_
  rintro e w1 ⟨rfl,h1⟩
  go_wp2
  go_ret
  exact ⟨rfl,h1⟩
theorem frule2 (v:Int) (S S':BkS) (f:ByteArray) (A:Bk) (four:Bool) (g:Nat) (w:World) (hv0:1≤v) (hv1:v≤4) (hf:decide (v=4)=four) (h:IsBk w S A) (hs:S.small) (k:Ro w g (flA v S S' f) 30) (hI:Ti w:=by trivial) :
 Calls Tryz.prog 105 #[.pointer (some ⟨g,0,none⟩)] w fun e w'=>e=.returned (.int .i64 (vB A four 4))∧Below w.heap.size w w':=by
 have C:=hide (Block S A v four 4 4 w rfl (.inl rfl) hv0 hv1 hf h hs hI)
 generalize vB A four 4=X at *
 clear h hs hv0 hv1 hf hI
 obtain ⟨⟨A0,n0,c0⟩,⟨A1,n1,c1⟩,⟨A2,n2,c2⟩,⟨A3,n3,c3⟩,⟨A4,n4,c4⟩,⟨A5,n5,c5⟩,⟨A6,n6,c6⟩⟩:=S
 dsimp only [bkV] at C
 obtain ⟨y0,_⟩:=ro_cf k 0 (.int .i64 v) rfl
 obtain ⟨y1,_⟩:=ro_cf k 1 (.slice A0 n0 c0) rfl
 obtain ⟨y2,_⟩:=ro_cf k 2 (.slice A1 n1 c1) rfl
 obtain ⟨y3,_⟩:=ro_cf k 3 (.slice A2 n2 c2) rfl
 obtain ⟨y4,_⟩:=ro_cf k 4 (.slice A3 n3 c3) rfl
 obtain ⟨y5,_⟩:=ro_cf k 5 (.slice A4 n4 c4) rfl
 obtain ⟨y6,_⟩:=ro_cf k 6 (.slice A5 n5 c5) rfl
 obtain ⟨y7,_⟩:=ro_cf k 7 (.slice A6 n6 c6) rfl
 clear k
 go_enter Tryz.func105,Tryz.ntmps105
 go_wp2_with fail
 refine C.out.mono ?_
 rintro e w1 ⟨rfl,h1⟩
 clear y0 y1 y2 y3 y4 y5 y6 y7 C
 go_wp2
 go_ret
 exact ⟨rfl,h1⟩
theorem frule3 (v:Int) (S S':BkS) (f:ByteArray) (B:Bk) (four:Bool) (g:Nat) (w:World) (hv0:1≤v) (hv1:v≤4) (hf:decide (v=4)=four) (h:IsBk w S' B) (hs:S'.small) (k:Ro w g (flA v S S' f) 30) (hI:Ti w:=by trivial) :
 Calls Tryz.prog 106 #[.pointer (some ⟨g,0,none⟩)] w fun e w'=>e=.returned (.int .i64 (if v=1 then rq (zB B && decide (byt f=[])) 18 else vB B four 8))∧Below w.heap.size w w':=by
 have C:=hide (checkV2 v S S' f B four w hv0 hv1 hf h hs hI)
 have G:=gr_file v S S' f
 generalize (if v=1 then rq (zB B && decide (byt f=[])) 18 else vB B four 8)=X at *
 generalize flA v S S' f=cs at *
 replace k:=hide k
 clear h hs hv0 hv1 hf hI
 go_enter Tryz.func106,Tryz.ntmps106
 go_wp2_with (refine load_row_g (by rfl) 30 _ rfl _ rfl _ _ _ k.out Tryz.underlying30 rfl G.1 ?_)
 refine C.out.mono ?_
 rintro e w1 ⟨rfl,h1⟩
 clear C k
 go_wp2
 go_ret
 exact ⟨rfl,h1⟩
theorem frule4 (v:Int) (S S':BkS) (f:ByteArray) (B:Bk) (four:Bool) (g:Nat) (w:World) (hT:Tb w) (h:IsBk w S' B) (hs:S'.small) (hf:f.size≤1000000) (hB:byt f≠[]→BOk B four 8) (k:Ro w g (flA v S S' f) 30) :
 Calls Tryz.prog 108 #[.pointer (some ⟨g,0,none⟩)] w fun e w'=>e=.returned (.int .i64 ((vF (byt f) v B).1))∧Below w.heap.size w w':=by
 have C:=hide (checkFooter v S S' f B four w hT h hs hf hB)
 have G:=gr_file v S S' f
 generalize ((vF (byt f) v B).1)=X at *
 generalize flA v S S' f=cs at *
 replace k:=hide k
 clear h hs hT hB
 go_enter Tryz.func108,Tryz.ntmps108
 go_wp2_with (refine load_row_g (by rfl) 30 _ rfl _ rfl _ _ _ k.out Tryz.underlying30 rfl G.1 ?_)
 refine C.out.mono ?_
 rintro e w1 ⟨rfl,h1⟩
 clear C k
 go_wp2
 go_ret
 exact ⟨rfl,h1⟩
def fsF (g:Nat):List Value:=[.func (.func 103) #[] #[.pointer (some ⟨g,0,none⟩)],.func (.func 105) #[] #[.pointer (some ⟨g,0,none⟩)],.func (.func 106) #[] #[.pointer (some ⟨g,0,none⟩)],.func (.func 108) #[] #[.pointer (some ⟨g,0,none⟩)]]
theorem fileRules (cs:Array Value) (w:World):Calls Tryz.prog 51 #[.agg cs] w fun e w'=>∃ g gr,e=.returned (.slice (some ⟨gr,0,none⟩) 4 4)∧Rd w' (some ⟨gr,0,none⟩) 4 (fsF g)∧Ro w' g cs 30∧Below w.heap.size w w':=by
 have hb:=hide (bl_new w (.cells cs 30))
 have k:=hide (Ro.new w cs 30)
 go_enter Tryz.func51,Tryz.ntmps51
 go_upto_region 1 with fail
 generalize (w.alloc (.cells cs 30))=u at *
 go_wp2
 go_ret
 exact ⟨w.heap.size,_,rfl,Rd.lit u 160 (fsF w.heap.size),k.out.alloc _,bl_alloc hb.out _⟩
theorem vFile_fnz (v:Int) (A B:Bk) (l:List UInt8):vFile v A B l=fnz [rq (decide (1≤v) && decide (v≤4)) 4,vB A (decide (v=4)) 4,if v=1 then rq (zB B && decide (l=[])) 18 else vB B (decide (v=4)) 8,(vF l v B).1]:=by
 have key:∀ a b c d:Int,fnz [a,b,c,d]=if a≠0 then a else if b≠0 then b else if c≠0 then c else d:=by
  intro a b c d
  simp only [fnz]
  by_cases h1:a=0 <;> by_cases h2:b=0 <;> by_cases h3:c=0 <;> by_cases h4:d=0 <;> simp [h1,h2,h3,h4]
 rw [key]
 unfold vFile
 by_cases a:v<1∨4<v
 ·have h0:(decide (1≤v) && decide (v≤4))=false:=by
   rw [Bool.and_eq_false_iff,decide_eq_false_iff_not,decide_eq_false_iff_not]
   omega
  rw [if_pos a,h0]
  rfl
 ·have h0:(decide (1≤v) && decide (v≤4))=true:=by
   rw [Bool.and_eq_true,decide_eq_true_iff,decide_eq_true_iff]
   omega
  rw [if_neg a,h0,if_neg (show ¬ rq true 4≠0 from fun h=>h rfl)]
  by_cases e1:vB A (decide (v=4)) 4=0
  ·have n1:¬ vB A (decide (v=4)) 4≠0:=fun h=>h e1
   rw [if_neg n1,if_neg n1]
   by_cases v1:v=1
   ·simp only [if_pos v1]
    by_cases c:l=[]
    ·cases hz:zB B
     ·simp [c,rq]
     ·simp [c,rq,vF]
    ·simp [c,rq]
   ·simp only [if_neg v1]
  ·rw [if_pos e1,if_pos e1]
theorem File (v:Int) (S S':BkS) (f:ByteArray) (A B:Bk) (w:World) (hT:Tb w) (h:IsBk w S A) (h':IsBk w S' B) (hs:S.small) (hs':S'.small) (hf:f.size≤1000000) (hI:Ti w:=by trivial) :
 Calls Tryz.prog 25 #[.agg (flA v S S' f)] w fun e w'=>e=.returned (.int .i64 (vFile v A B (byt f)))∧Below w.heap.size w w':=by
 have FR:=hide (fun w=>fileRules (flA v S S' f) w)
 have FV:=hide (fun g gr W (hb:Below w.heap.size w W) (hr:Rd W (some ⟨gr,0,none⟩) 4 (fsF g)) (r0:Ro W g (flA v S S' f) 30) =>
  first_ gr 4 (fsF g) [rq (decide (1≤v) && decide (v≤4)) 4,vB A (decide (v=4)) 4,if v=1 then rq (zB B && decide (byt f=[])) 18 else vB B (decide (v=4)) 8,(vF (byt f) v B).1] W hr rfl (by decide) (fun i hi hj=>by
   have hv:0<i→1≤v∧v≤4:=fun h0=>by
    have:=hj 0 h0
    simp [rq] at this
    exact this
   have hB:2<i→byt f≠[]→BOk B (decide (v=4)) 8:=fun h2 hne=>by
    have:=hj 2 h2
    simp only [List.getElem?_cons_succ,List.getElem?_cons_zero,Option.some.injEq] at this
    by_cases v1:v=1
    ·rw [if_pos v1,decide_eq_false hne] at this
     simp [rq] at this
    ·rw [if_neg v1] at this
     exact (vB_iff _ _ _).1 this
   rcases (show i=0∨i=1∨i=2∨i=3 by omega) with rfl | rfl | rfl | rfl
   ·exact ⟨_,_,_,rfl,rfl,lp_.enters Tryz.func103 (by kernel_rfl) (by kernel_rfl),fun W' hW=>frule1 v S S' f g W' (r0.below hW)⟩
   ·exact ⟨_,_,_,rfl,rfl,lp_.enters Tryz.func105 (by kernel_rfl) (by kernel_rfl),fun W' hW=>frule2 v S S' f A _ g W' (hv (by decide)).1 (hv (by decide)).2 rfl ((h.below hb).below hW) hs (r0.below hW) ((hI.below hb).below hW)⟩
   ·exact ⟨_,_,_,rfl,rfl,lp_.enters Tryz.func106 (by kernel_rfl) (by kernel_rfl),fun W' hW=>frule3 v S S' f B _ g W' (hv (by decide)).1 (hv (by decide)).2 rfl ((h'.below hb).below hW) hs' (r0.below hW) ((hI.below hb).below hW)⟩
   ·exact ⟨_,_,_,rfl,rfl,lp_.enters Tryz.func108 (by kernel_rfl) (by kernel_rfl),fun W' hW=>frule4 v S S' f B (decide (v=4)) g W' ((hT.below hb).below hW) ((h'.below hb).below hW) hs' hf (hB (by decide)) (r0.below hW)⟩))
 rw [← vFile_fnz] at FV
 generalize vFile v A B (byt f)=r at *
 have G:=gr_file v S S' f
 clear h h' hs hs' hT hI
 generalize flA v S S' f=cs at *
 have k3:=hide (Ro.new w cs 30)
 have hb:=hide (bl_new w (.cells cs 30))
 go_enter Tryz.func25,Tryz.ntmps25
 go_upto_region 1 with fail
 generalize (w.alloc (.cells cs 30))=u at *
 go_wp2_with (refine load_row_g (by rfl) 30 _ rfl _ rfl _ _ _ k3.out Tryz.underlying30 rfl G.1 ?_)
 refine (FR.out _).mono ?_
 rintro e w1 ⟨g,gr,rfl,hr,r0,h1⟩
 replace hb:=hide (bel_next hb.out h1)
 have FC:=hide (FV.out g gr w1 hb.out hr r0)
 clear FV FR hr r0 h1 k3
 go_wp2_with fail
 refine FC.out.mono ?_
 rintro e w2 ⟨rfl,h1⟩
 replace hb:=hide (bel_next hb.out h1)
 clear h1 FC
 go_wp2
 go_ret
 exact ⟨rfl,hb.out⟩
end vd_
end Go.Proofs.YtpapfpcehlhgeaaGreatDoor
