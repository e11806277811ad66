/-
  Texts of mine in one file: ZfB, ZfC, ZfD. Their conditions stand in the theorems.
-/
import Derived.Test.YtpapfpcehlhgeaaGreatDoorE19
import Derived.Laws.EntriesVeiled
import Derived.Deep.RegionHeld3
import Derived.Deep.DeepCutAuto
import Derived.Lib.SlBytesConst
import Derived.Test.YtpapfpcehlhgeaaGreatDoorE03
namespace Go.Proofs.YtpapfpcehlhgeaaGreatDoor
set_option linter.unusedVariables false
set_option linter.unusedSimpArgs false
set_option maxRecDepth 100000
set_option maxHeartbeats 16000000
open Go.ChangeShapes Go.WideShapes Go.ChangeAt Go.RowKit
theorem le_small {w:World} {S:BkS} {b:Bk} (h:IsBk w S b) (hb:b.le' 100000):S.small:=by
 obtain ⟨l0,l1,l2,l3,l4,l5,l6⟩:=h.lens
 obtain ⟨a0,a1,a2,a3,a4,a5,a6⟩:=hb
 exact ⟨by omega,by omega,by omega,by omega,by omega,by omega,by omega⟩
theorem le_up {b:Bk} {n m:Nat} (h:b.le' n) (hm:n≤m):b.le' m:=by
 obtain ⟨a0,a1,a2,a3,a4,a5,a6⟩:=h
 exact ⟨by omega,by omega,by omega,by omega,by omega,by omega,by omega⟩
theorem dec_le {l:List Int} {p k:Nat} {a b c d x y:Nat} {Q:Bk} {P E T at_:Int} (hk:k=4∨k=8) (hb:decB k a b c d x y l p at_=(Q,P,E,T)):Q.le' l.length∧(E≠0→Q=Bk.zero):=by
 have hz:Bk.zero.le' l.length:=⟨Nat.zero_le _,Nat.zero_le _,Nat.zero_le _,Nat.zero_le _,Nat.zero_le _,Nat.zero_le _,Nat.zero_le _⟩
 unfold decB at hb
 split at hb
 ·simp only [Prod.mk.injEq] at hb
  obtain ⟨rfl,_⟩:=hb
  exact ⟨hz,fun _=>rfl⟩
 rename_i hlen
 split at hb
 ·simp only [Prod.mk.injEq] at hb
  obtain ⟨rfl,_,rfl,_⟩:=hb
  refine ⟨?_,fun h=>absurd rfl h⟩
  obtain ⟨n0,n1,n2,n3,n4,n5,n6⟩:=decBk_len k a b c d x y l p (by omega)
  unfold Bk.le'
  rw [n0,n1,n2,n3,n4,n5,n6]
  unfold tot at hlen
  rcases hk with rfl | rfl <;> refine ⟨?_,?_,?_,?_,?_,?_,?_⟩ <;> omega
 ·simp only [Prod.mk.injEq] at hb
  obtain ⟨rfl,_⟩:=hb
  exact ⟨hz,fun _=>rfl⟩
def Un (w:World) (g:Nat) (cs:Array Value):Prop:=∀ j v,4≤j→cs[j]?=some v→w.cell? ⟨g,j,none⟩=some v
theorem un0 {w:World} {g:Nat} {cs:Array Value} {T:TypeId} (h:Ro w g cs T):Un w g cs:=fun j v _ hv=>by rw [h.cell];exact hv
theorem un4 {w:World} {g:Nat} {cs:Array Value} {T:TypeId} {a b c d:Value} (h:Ro w g ((((cs.setIfInBounds 0 a).setIfInBounds 1 b).setIfInBounds 2 c).setIfInBounds 3 d) T):Un w g cs:=fun j v hj hv=>by
 rw [h.cell,Array.getElem?_setIfInBounds_ne (by omega),Array.getElem?_setIfInBounds_ne (by omega),Array.getElem?_setIfInBounds_ne (by omega),Array.getElem?_setIfInBounds_ne (by omega)]
 exact hv
theorem un23 {w:World} {g:Nat} {cs:Array Value} {T:TypeId} {c d:Value} (h:Ro w g ((cs.setIfInBounds 2 c).setIfInBounds 3 d) T):Un w g cs:=fun j v hj hv=>by
 rw [h.cell,Array.getElem?_setIfInBounds_ne (by omega),Array.getElem?_setIfInBounds_ne (by omega)]
 exact hv
namespace zf_
theorem readBlock {w0:World} {A:Option Addr} {n c:Nat} {xs:List Int} (I:PIn w0 A n c xs) (g p k:Nat) (K s:Int) (h:Hd) (v:Int) (S S':BkS) (f:ByteArray) (w:World) (hg:w0.heap.size≤g) (hl:Below w0.heap.size w0 w) (hp:p≤n) (hK:K=(k:Int)) (hk:k=4∨k=8) (hok:h.ok) (hv0:1≤v) (hv1:v≤4) {Q:Bk} {P E T:Int}
 (hd:decB k h.ut.toNat h.sd.toNat h.lp.toNat h.tm.toNat h.ty.toNat h.ch.toNat xs p s=(Q,P,E,T)) (ko:Ro w g (psA A n c p 0 0 s h v S S' f) 57) :
 Calls Tryz.prog 34 #[.pointer (some ⟨g,0,none⟩),.int .i64 K] w fun z w'=>∃ S1,z=.returned (bkV S1)∧Ro w' g (psA A n c P (fe E (vB Q (decide (v=4)) k)) (fa E T (vB Q (decide (v=4)) k) s) s h v S S' f) 57∧OwBk w' w.heap.size S1 Q∧But g w w':=by
 have hLy:LyC ((h.ut.toNat:Nat):Int) ((h.sd.toNat:Nat):Int) ((h.lp.toNat:Nat):Int) ((h.tm.toNat:Nat):Int) ((h.ty.toNat:Nat):Int) ((h.ch.toNat:Nat):Int) K:=by
  obtain ⟨_,_,⟨a0,a1⟩,⟨b0,b1⟩,⟨c0,c1⟩,⟨d0,d1⟩,⟨x0,x1⟩,⟨y0,y1⟩⟩:=hok
  exact ⟨by unfold C32;omega,by unfold C32;omega,by unfold C32;omega,by unfold C32;omega,by unfold C32;omega,by unfold C32;omega,by omega⟩
 have C:=hide (fun W (hW:Below w0.heap.size w0 W)=>show Calls Tryz.prog 74 #[cu A n c p 0 0,hdV h.ver h.ut h.sd h.lp h.tm h.ty h.ch,.int .i64 K,.int .i64 s] W fun z w'=>∃ S1,z=.returned (.tuple #[bkV S1,cu A n c P E T])∧OwBk w' W.heap.size S1 Q∧Below W.heap.size W w' from by
  have:=bl_.Decode A n c p xs h.ver h.ut.toNat h.sd.toNat h.lp.toNat h.tm.toNat h.ty.toNat h.ch.toNat k K s W (I.t.2.1.below hW) hK hk hLy I.z I.nc I.cm (I.r.below hW) I.b I.sm hp
  obtain ⟨_,_,⟨a0,a1⟩,⟨b0,b1⟩,⟨c0,c1⟩,⟨d0,d1⟩,⟨x0,x1⟩,⟨y0,y1⟩⟩:=hok
  rw [Int.toNat_of_nonneg a0,Int.toNat_of_nonneg b0,Int.toNat_of_nonneg c0,Int.toNat_of_nonneg d0,Int.toNat_of_nonneg x0,Int.toNat_of_nonneg y0] at this
  refine this.mono ?_
  rintro z w' ⟨S1,Q1,P1,E1,T1,e,rfl,o,b⟩
  rw [hd] at e
  simp only [Prod.mk.injEq] at e
  obtain ⟨rfl,rfl,rfl,rfl⟩:=e
  exact ⟨S1,rfl,o,b⟩)
 have hQ:=(dec_le hk hd).1
 have VB:=hide (fun W S1 (hW:Below w0.heap.size w0 W) (h1:IsBk W S1 Q)=>show Calls Tryz.prog 76 #[bkV S1,.int .i64 v,.int .i64 K] W fun e w'=>e=.returned (.int .i64 (vB Q (decide (v=4)) k))∧Below W.heap.size W w' from vd_.Block S1 Q v (decide (v=4)) k K W hK hk hv0 hv1 rfl h1 (le_small h1 (by have:=I.len;have:=I.sm;exact le_up hQ (by omega))) (I.t.2.1.below hW).2)
 have F:=hide (fun w=>fail A n c P E T s h v S S' f g (vB Q (decide (v=4)) k) s w)
 clear hQ hLy hd hok hp hK hv0 hv1
 obtain ⟨cs,hcs⟩:∃ zz,zz=psA A n c p 0 0 s h v S S' f:=⟨_,rfl⟩
 obtain ⟨cs1,hcs1⟩:∃ zz,zz=psA A n c P E T s h v S S' f:=⟨_,rfl⟩
 obtain ⟨cs2,hcs2⟩:∃ zz,zz=psA A n c P (fe E (vB Q (decide (v=4)) k)) (fa E T (vB Q (decide (v=4)) k) s) s h v S S' f:=⟨_,rfl⟩
 have q0:=hide (show cs[0]?=some (.slice A n c) by rw [hcs];rfl)
 have q1:=hide (show cs[1]?=some (.int .i64 p) by rw [hcs];rfl)
 have q2:=hide (show cs[2]?=some (.int .i64 0) by rw [hcs];rfl)
 have q3:=hide (show cs[3]?=some (.int .i64 0) by rw [hcs];rfl)
 have q4:=hide (show cs[4]?=some (.int .i64 s) by rw [hcs];rfl)
 have q5:=hide (show cs[5]?=some (.int .i64 h.ver) by rw [hcs];rfl)
 have q6:=hide (show cs[6]?=some (.int .u32 h.ut) by rw [hcs];rfl)
 have q7:=hide (show cs[7]?=some (.int .u32 h.sd) by rw [hcs];rfl)
 have q8:=hide (show cs[8]?=some (.int .u32 h.lp) by rw [hcs];rfl)
 have q9:=hide (show cs[9]?=some (.int .u32 h.tm) by rw [hcs];rfl)
 have q10:=hide (show cs[10]?=some (.int .u32 h.ty) by rw [hcs];rfl)
 have q11:=hide (show cs[11]?=some (.int .u32 h.ch) by rw [hcs];rfl)
 have r2:=hide (show cs1[2]?=some (.int .i64 E) by rw [hcs1];rfl)
 have r3:=hide (show cs1[3]?=some (.int .i64 T) by rw [hcs1];rfl)
 have r4:=hide (show cs1[4]?=some (.int .i64 s) by rw [hcs1];rfl)
 have r12:=hide (show cs1[12]?=some (.int .i64 v) by rw [hcs1];rfl)
 have N:=hide (show ((((cs.setIfInBounds 0 (.slice A n c)).setIfInBounds 1 (.int .i64 P)).setIfInBounds 2 (.int .i64 E)).setIfInBounds 3 (.int .i64 T))=cs1 by rw [hcs,hcs1];unfold psA;simp only [List.setIfInBounds_toArray];rfl)
 have M:=hide (show (cs1.setIfInBounds 2 (.int .i64 (fe E (vB Q (decide (v=4)) k)))).setIfInBounds 3 (.int .i64 (fa E T (vB Q (decide (v=4)) k) s))=cs2 by rw [hcs1,hcs2];unfold psA;simp only [List.setIfInBounds_toArray];rfl)
 rw [← hcs] at ko
 rw [← hcs1,← hcs2] at F
 rw [← hcs2]
 clear hcs hcs1 hcs2 I
 generalize fe E (vB Q (decide (v=4)) k)=e2 at *
 generalize fa E T (vB Q (decide (v=4)) k) s=a2 at *
 generalize vB Q (decide (v=4)) k=why at *
 have gw:=hide ko.lt
 replace ko:=hide ko
 replace hl:=hide hl
 replace hg:=hide hg
 go_enter Tryz.func34,Tryz.ntmps34
 go_upto_region 2 with fail
 have kr:=hide (((Ro.new w zS7 28).alloc (.cells zS7 28)).drew)
 have kb:=hide ((show Ro ((w.alloc (.cells zS7 28)).alloc (.cells zS7 28)) (w.heap.size+1) zS7 28 by have:=Ro.new (w.alloc (.cells zS7 28)) zS7 28;simpa using this).drew)
 replace ko:=hide (((ko.out.alloc (.cells zS7 28)).alloc (.cells zS7 28)).drew)
 have hB:=hide ((But.of (b:=g) (bl_alloc (bl_new w (.cells zS7 28)) (.cells zS7 28))).drew)
 have su:=hide (show w.heap.size+1<(((w.alloc (.cells zS7 28)).alloc (.cells zS7 28)).drew).heap.size from kb.out.lt)
 generalize (w.alloc (.cells zS7 28)).alloc (.cells zS7 28)=u at *
 have dgb:=hide (show g≠w.heap.size+1∧w.heap.size≠w.heap.size+1∧w.heap.size≠g∧w.heap.size<w.heap.size+1 from by have:=gw.out;omega)
 generalize w.heap.size+1=g_b at *
 generalize hgr:w.heap.size=g_r at *
 replace hgr:=hide hgr
 refine wp_region_held_drew (S:=fun w'=>Hid (Un w' g cs)) (by kernel_rfl) (hide (un0 ko.out)) (fun hHeld=>?_)
 generalize u.drew=u0 at *
 refine tkV 0 (some 7) (v:=?_) ?_ ?_
 rotate_left
 ·((intro w hSw;go_simp) <;> with_reducible rfl)
 try simp only [Act.put,sI1,sI2,sI3]
 refine tkV 1 (some 8) (v:=?_) ?_ ?_
 rotate_left
 ·((intro w hSw;go_simp) <;> with_reducible rfl)
 try simp only [Act.put,sI1,sI2,sI3]
 refine tkV 2 (some 9) (v:=?_) ?_ ?_
 rotate_left
 ·((intro w hSw;go_simp) <;> with_reducible rfl)
 try simp only [Act.put,sI1,sI2,sI3]
 refine tkV 3 (some 10) (v:=?_) ?_ ?_
 rotate_left
 ·((intro w hSw;go_simp) <;> with_reducible rfl)
 try simp only [Act.put,sI1,sI2,sI3]
 refine tkV 5 (some 12) (v:=?_) ?_ ?_
 rotate_left
 ·((intro w hSw;go_simp) <;> with_reducible rfl)
 try simp only [Act.put,sI1,sI2,sI3]
 refine tkV 6 (some 13) (v:=?_) ?_ ?_
 rotate_left
 ·((intro w hSw;go_simp) <;> with_reducible rfl)
 try simp only [Act.put,sI1,sI2,sI3]
 refine tkV 7 (some 14) (v:=?_) ?_ ?_
 rotate_left
 ·((intro w hSw;go_simp) <;> with_reducible rfl)
 try simp only [Act.put,sI1,sI2,sI3]
 refine tkV 8 (some 15) (v:=?_) ?_ ?_
 rotate_left
 ·((intro w hSw;have y5:=hSw.out 5 _ (by decide) q5.out;have y6:=hSw.out 6 _ (by decide) q6.out;have y7:=hSw.out 7 _ (by decide) q7.out;have y8:=hSw.out 8 _ (by decide) q8.out;have y9:=hSw.out 9 _ (by decide) q9.out;have y10:=hSw.out 10 _ (by decide) q10.out;have y11:=hSw.out 11 _ (by decide) q11.out;go_simp) <;> with_reducible rfl)
 try simp only [Act.put,sI1,sI2,sI3]
 refine tkV 9 (some 16) (v:=?_) ?_ ?_
 rotate_left
 ·((intro w hSw;go_simp) <;> with_reducible rfl)
 try simp only [Act.put,sI1,sI2,sI3]
 refine tkV 10 (some 17) (v:=?_) ?_ ?_
 rotate_left
 ·((intro w hSw;go_simp) <;> with_reducible rfl)
 try simp only [Act.put,sI1,sI2,sI3]
 refine tkV 11 (some 18) (v:=?_) ?_ ?_
 rotate_left
 ·((intro w hSw;go_simp) <;> with_reducible rfl)
 try simp only [Act.put,sI1,sI2,sI3]
 refine tkV 12 (some 19) (v:=?_) ?_ ?_
 rotate_left
 ·((intro w hSw;go_simp) <;> with_reducible rfl)
 try simp only [Act.put,sI1,sI2,sI3]
 refine tkV 13 (some 20) (v:=?_) ?_ ?_
 rotate_left
 ·((intro w hSw;have y4:=hSw.out 4 _ (by decide) q4.out;go_simp) <;> with_reducible rfl)
 try simp only [Act.put,sI1,sI2,sI3]
 refine wpAnyH_ready (rs:=[4]) (by kernel_rfl) (by simp) ?_
 refine AllReadyH.cons rfl (fun K hK=>?_) (AllReadyH.nil)
 obtain ⟨y0,z0⟩:=ro_cf ko.out 0 _ q0.out
 obtain ⟨y1,z1⟩:=ro_cf ko.out 1 _ q1.out
 obtain ⟨y2,z2⟩:=ro_cf ko.out 2 _ q2.out
 obtain ⟨y3,z3⟩:=ro_cf ko.out 3 _ q3.out
 go_simp
 refine hK.out _ _ (hHeld) (fun hHeld=>?_)
 clear hK K
 clear y0 z0 y1 z1 y2 z2 y3 z3
 try simp only [Act.put,sI1,sI2,sI3]
 refine wpAnyH_ready (rs:=[14]) (by kernel_rfl) (by simp) ?_
 refine AllReadyH.cons rfl (fun K hK=>?_) (AllReadyH.nil)
 go_simp
 refine (C.out _ (But.down hl.out hg.out hB.out)).mono ?_
 rintro e w3 ⟨S1,rfl,o1,h1'⟩
 replace ko:=hide (ko.out.below h1')
 replace kb:=hide (kb.out.below h1')
 replace kr:=hide (kr.out.below h1')
 replace hB:=hide (hB.out.next h1')
 have sb:=hide (show g_b<_ from su.out)
 clear su h1' C
 replace o1:=hide o1
 refine hK.out _ _ (hide (un0 ko.out)) (fun hHeld=>?_)
 clear hK K
 try simp only [Act.put,sI1,sI2,sI3]
 refine tkV 15 (some 6) (v:=?_) ?_ ?_
 rotate_left
 ·((intro w hSw;go_simp) <;> with_reducible rfl)
 try simp only [Act.put,sI1,sI2,sI3]
 refine tkV 16 (some 22) (v:=?_) ?_ ?_
 rotate_left
 ·((intro w hSw;go_simp) <;> with_reducible rfl)
 try simp only [Act.put,sI1,sI2,sI3]
 refine tkV 17 (some 23) (v:=?_) ?_ ?_
 rotate_left
 ·((intro w hSw;go_simp) <;> with_reducible rfl)
 try simp only [Act.put,sI1,sI2,sI3]
 refine wpAnyH_ready (rs:=[18]) (by kernel_rfl) (by simp) ?_
 refine AllReadyH.cons rfl (fun K hK=>?_) (AllReadyH.nil)
 obtain ⟨b0,d0⟩:=ro_cf kb.out 0 (.slice none 0 0) rfl
 obtain ⟨b1,d1⟩:=ro_cf kb.out 1 (.slice none 0 0) rfl
 obtain ⟨b2,d2⟩:=ro_cf kb.out 2 (.slice none 0 0) rfl
 obtain ⟨b3,d3⟩:=ro_cf kb.out 3 (.slice none 0 0) rfl
 obtain ⟨b4,d4⟩:=ro_cf kb.out 4 (.slice none 0 0) rfl
 obtain ⟨b5,d5⟩:=ro_cf kb.out 5 (.slice none 0 0) rfl
 obtain ⟨b6,d6⟩:=ro_cf kb.out 6 (.slice none 0 0) rfl
 go_simp
 have B1:=((((((((But.refl g_b w3).set (o:=0) (.slice S1.ti.A S1.ti.n S1.ti.c)).set (o:=1) (.slice S1.ix.A S1.ix.n S1.ix.c)).set (o:=2) (.slice S1.ty.A S1.ty.n S1.ty.c)).set (o:=3) (.slice S1.ch.A S1.ch.n S1.ch.c)).set (o:=4) (.slice S1.lp.A S1.lp.n S1.lp.c)).set (o:=5) (.slice S1.sd.A S1.sd.n S1.sd.c)).set (o:=6) (.slice S1.ut.A S1.ut.n S1.ut.c))
 replace ko:=hide (ro_but ko.out B1 dgb.out.1)
 replace kr:=hide (ro_but kr.out B1 dgb.out.2.1)
 replace kb:=hide (ro_set7' (x0:=.slice S1.ti.A S1.ti.n S1.ti.c) (x1:=.slice S1.ix.A S1.ix.n S1.ix.c) (x2:=.slice S1.ty.A S1.ty.n S1.ty.c) (x3:=.slice S1.ch.A S1.ch.n S1.ch.c) (x4:=.slice S1.lp.A S1.lp.n S1.lp.c) (x5:=.slice S1.sd.A S1.sd.n S1.sd.c) (x6:=.slice S1.ut.A S1.ut.n S1.ut.c) kb.out)
 replace o1:=hide (o1.out.but sb.out B1)
 replace hB:=hide (((((((hB.out.setNew (g:=g_b) (o:=0) (by have:=dgb.out;have:=hgr.out;omega) (.slice S1.ti.A S1.ti.n S1.ti.c)).setNew (g:=g_b) (o:=1) (by have:=dgb.out;have:=hgr.out;omega) (.slice S1.ix.A S1.ix.n S1.ix.c)).setNew (g:=g_b) (o:=2) (by have:=dgb.out;have:=hgr.out;omega) (.slice S1.ty.A S1.ty.n S1.ty.c)).setNew (g:=g_b) (o:=3) (by have:=dgb.out;have:=hgr.out;omega) (.slice S1.ch.A S1.ch.n S1.ch.c)).setNew (g:=g_b) (o:=4) (by have:=dgb.out;have:=hgr.out;omega) (.slice S1.lp.A S1.lp.n S1.lp.c)).setNew (g:=g_b) (o:=5) (by have:=dgb.out;have:=hgr.out;omega) (.slice S1.sd.A S1.sd.n S1.sd.c)).setNew (g:=g_b) (o:=6) (by have:=dgb.out;have:=hgr.out;omega) (.slice S1.ut.A S1.ut.n S1.ut.c))
 clear B1 b0 d0 b1 d1 b2 d2 b3 d3 b4 d4 b5 d5 b6 d6
 refine hK.out _ _ (hide (un0 ko.out)) (fun hHeld=>?_)
 clear hK K
 generalize (((((((w3.setCell ⟨g_b,0,none⟩ (.slice S1.ti.A S1.ti.n S1.ti.c)).setCell ⟨g_b,1,none⟩ (.slice S1.ix.A S1.ix.n S1.ix.c)).setCell ⟨g_b,2,none⟩ (.slice S1.ty.A S1.ty.n S1.ty.c)).setCell ⟨g_b,3,none⟩ (.slice S1.ch.A S1.ch.n S1.ch.c)).setCell ⟨g_b,4,none⟩ (.slice S1.lp.A S1.lp.n S1.lp.c)).setCell ⟨g_b,5,none⟩ (.slice S1.sd.A S1.sd.n S1.sd.c)).setCell ⟨g_b,6,none⟩ (.slice S1.ut.A S1.ut.n S1.ut.c))=wbw3 at *
 try simp only [Act.put,sI1,sI2,sI3]
 refine tkV 19 (some 24) (v:=?_) ?_ ?_
 rotate_left
 ·((intro w hSw;go_simp) <;> with_reducible rfl)
 try simp only [Act.put,sI1,sI2,sI3]
 refine tkV 20 (some 25) (v:=?_) ?_ ?_
 rotate_left
 ·((intro w hSw;go_simp) <;> with_reducible rfl)
 try simp only [Act.put,sI1,sI2,sI3]
 refine wpAnyH_ready (rs:=[21]) (by kernel_rfl) (by simp) ?_
 refine AllReadyH.cons rfl (fun K hK=>?_) (AllReadyH.nil)
 obtain ⟨y0,z0⟩:=ro_cf ko.out 0 _ q0.out
 obtain ⟨y1,z1⟩:=ro_cf ko.out 1 _ q1.out
 obtain ⟨y2,z2⟩:=ro_cf ko.out 2 _ q2.out
 obtain ⟨y3,z3⟩:=ro_cf ko.out 3 _ q3.out
 go_simp
 have B1:=(((((But.refl g wbw3).set (o:=0) (.slice A n c)).set (o:=1) (.int .i64 P)).set (o:=2) (.int .i64 E)).set (o:=3) (.int .i64 T))
 replace ko:=hide (show Ro (((((wbw3.setCell ⟨g,0,none⟩ (.slice A n c)).setCell ⟨g,1,none⟩ (.int .i64 P)).setCell ⟨g,2,none⟩ (.int .i64 E)).setCell ⟨g,3,none⟩ (.int .i64 T))) g cs1 57 from by have:=(ro_set (ro_set (ro_set (ro_set ko.out 0 (.slice A n c)) 1 (.int .i64 P)) 2 (.int .i64 E)) 3 (.int .i64 T));rwa [N.out] at this)
 replace kr:=hide (ro_but kr.out B1 dgb.out.2.2.1)
 replace kb:=hide (ro_but kb.out B1 dgb.out.1.symm)
 replace o1:=hide (o1.out.but (by have:=sb.out;have:=dgb.out;have:=gw.out;omega) B1)
 replace hB:=hide ((((hB.out.set (o:=0) (.slice A n c)).set (o:=1) (.int .i64 P)).set (o:=2) (.int .i64 E)).set (o:=3) (.int .i64 T))
 clear B1
 clear y0 z0 y1 z1 y2 z2 y3 z3
 refine hK.out _ _ (hide (un4 (by rw [N.out];exact ko.out))) (fun hHeld=>?_)
 clear hK K
 generalize ((((wbw3.setCell ⟨g,0,none⟩ (.slice A n c)).setCell ⟨g,1,none⟩ (.int .i64 P)).setCell ⟨g,2,none⟩ (.int .i64 E)).setCell ⟨g,3,none⟩ (.int .i64 T))=wpwbw3 at *
 try simp only [Act.put,sI1,sI2,sI3]
 refine wpAnyH_done (by kernel_rfl) ?_ _
 have sb2:=hide sb.out
 clear hHeld
 go_upto_region 3 with fail
 replace ko:=hide ko.out.drew
 replace kb:=hide kb.out.drew
 replace kr:=hide kr.out.drew
 replace hB:=hide hB.out.drew
 replace o1:=hide o1.out.drew
 refine wp_region_held_drew (S:=fun w'=>Hid (Un w' g cs1)∧Hid (Ro w' g_b #[.slice S1.ti.A S1.ti.n S1.ti.c,.slice S1.ix.A S1.ix.n S1.ix.c,.slice S1.ty.A S1.ty.n S1.ty.c,.slice S1.ch.A S1.ch.n S1.ch.c,.slice S1.lp.A S1.lp.n S1.lp.c,.slice S1.sd.A S1.sd.n S1.sd.c,.slice S1.ut.A S1.ut.n S1.ut.c] 28)) (by kernel_rfl) (⟨hide (un0 ko.out),hide kb.out⟩) (fun hHeld=>?_)
 generalize wpwbw3.drew=u9 at *
 refine tkV 0 (some 26) (v:=?_) ?_ ?_
 rotate_left
 ·((intro w hSw;go_simp) <;> with_reducible rfl)
 try simp only [Act.put,sI1,sI2,sI3]
 refine tkV 1 (some 27) (v:=?_) ?_ ?_
 rotate_left
 ·((intro w hSw;obtain ⟨b0,d0⟩:=ro_cf hSw.2.out 0 (.slice S1.ti.A S1.ti.n S1.ti.c) rfl;obtain ⟨b1,d1⟩:=ro_cf hSw.2.out 1 (.slice S1.ix.A S1.ix.n S1.ix.c) rfl;obtain ⟨b2,d2⟩:=ro_cf hSw.2.out 2 (.slice S1.ty.A S1.ty.n S1.ty.c) rfl;obtain ⟨b3,d3⟩:=ro_cf hSw.2.out 3 (.slice S1.ch.A S1.ch.n S1.ch.c) rfl;obtain ⟨b4,d4⟩:=ro_cf hSw.2.out 4 (.slice S1.lp.A S1.lp.n S1.lp.c) rfl;obtain ⟨b5,d5⟩:=ro_cf hSw.2.out 5 (.slice S1.sd.A S1.sd.n S1.sd.c) rfl;obtain ⟨b6,d6⟩:=ro_cf hSw.2.out 6 (.slice S1.ut.A S1.ut.n S1.ut.c) rfl;go_simp) <;> with_reducible rfl)
 try simp only [Act.put,sI1,sI2,sI3]
 refine tkV 2 (some 28) (v:=?_) ?_ ?_
 rotate_left
 ·((intro w hSw;go_simp) <;> with_reducible rfl)
 try simp only [Act.put,sI1,sI2,sI3]
 refine tkV 3 (some 29) (v:=?_) ?_ ?_
 rotate_left
 ·((intro w hSw;go_simp) <;> with_reducible rfl)
 try simp only [Act.put,sI1,sI2,sI3]
 refine tkV 4 (some 30) (v:=?_) ?_ ?_
 rotate_left
 ·((intro w hSw;go_simp) <;> with_reducible rfl)
 try simp only [Act.put,sI1,sI2,sI3]
 refine tkV 5 (some 31) (v:=?_) ?_ ?_
 rotate_left
 ·((intro w hSw;go_simp) <;> with_reducible rfl)
 try simp only [Act.put,sI1,sI2,sI3]
 refine tkV 6 (some 32) (v:=?_) ?_ ?_
 rotate_left
 ·((intro w hSw;have y12:=hSw.1.out 12 _ (by decide) r12.out;go_simp) <;> with_reducible rfl)
 try simp only [Act.put,sI1,sI2,sI3]
 refine tkV 7 (some 33) (v:=?_) ?_ ?_
 rotate_left
 ·((intro w hSw;go_simp) <;> with_reducible rfl)
 try simp only [Act.put,sI1,sI2,sI3]
 refine tkV 9 (some 35) (v:=?_) ?_ ?_
 rotate_left
 ·((intro w hSw;go_simp) <;> with_reducible rfl)
 try simp only [Act.put,sI1,sI2,sI3]
 refine tkV 10 (some 36) (v:=?_) ?_ ?_
 rotate_left
 ·((intro w hSw;go_simp) <;> with_reducible rfl)
 try simp only [Act.put,sI1,sI2,sI3]
 refine tkV 11 (some 37) (v:=?_) ?_ ?_
 rotate_left
 ·((intro w hSw;go_simp) <;> with_reducible rfl)
 try simp only [Act.put,sI1,sI2,sI3]
 refine tkV 12 (some 38) (v:=?_) ?_ ?_
 rotate_left
 ·((intro w hSw;have y4:=hSw.1.out 4 _ (by decide) r4.out;go_simp) <;> with_reducible rfl)
 try simp only [Act.put,sI1,sI2,sI3]
 refine wpAnyH_ready (rs:=[8]) (by kernel_rfl) (by simp) ?_
 refine AllReadyH.cons rfl (fun K hK=>?_) (AllReadyH.nil)
 go_simp
 refine (VB.out _ S1 (But.down hl.out hg.out hB.out) o1.out.is).mono ?_
 rintro e w5 ⟨rfl,h2'⟩
 replace ko:=hide (ko.out.below h2')
 replace kb:=hide (kb.out.below h2')
 replace kr:=hide (kr.out.below h2')
 replace hB:=hide (hB.out.next h2')
 replace o1:=hide (o1.out.below h2')
 clear h2' VB
 refine hK.out _ _ (⟨hide (un0 ko.out),hide kb.out⟩) (fun hHeld=>?_)
 clear hK K
 try simp only [Act.put,sI1,sI2,sI3]
 refine wpAnyH_ready (rs:=[13]) (by kernel_rfl) (by simp) ?_
 refine AllReadyH.cons rfl (fun K hK=>?_) (AllReadyH.nil)
 go_simp
 refine (F.out _ ko.out).mono ?_
 rintro e w6 ⟨rfl,k6,hB6⟩
 replace k6:=hide k6
 replace kb:=hide (ro_but kb.out hB6 dgb.out.1.symm)
 replace kr:=hide (ro_but kr.out hB6 dgb.out.2.2.1)
 replace hB:=hide (hB.out.trans hB6)
 replace o1:=hide (o1.out.but (by have:=sb.out;have:=dgb.out;have:=gw.out;omega) hB6)
 clear hB6 F ko
 refine hK.out _ _ (⟨hide (un23 (by rw [M.out];exact k6.out)),hide kb.out⟩) (fun hHeld=>?_)
 clear hK K
 try simp only [Act.put,sI1,sI2,sI3]
 refine wpAnyH_done (by kernel_rfl) ?_ _
 obtain ⟨b0,d0⟩:=ro_cf kb.out 0 (.slice S1.ti.A S1.ti.n S1.ti.c) rfl
 obtain ⟨b1,d1⟩:=ro_cf kb.out 1 (.slice S1.ix.A S1.ix.n S1.ix.c) rfl
 obtain ⟨b2,d2⟩:=ro_cf kb.out 2 (.slice S1.ty.A S1.ty.n S1.ty.c) rfl
 obtain ⟨b3,d3⟩:=ro_cf kb.out 3 (.slice S1.ch.A S1.ch.n S1.ch.c) rfl
 obtain ⟨b4,d4⟩:=ro_cf kb.out 4 (.slice S1.lp.A S1.lp.n S1.lp.c) rfl
 obtain ⟨b5,d5⟩:=ro_cf kb.out 5 (.slice S1.sd.A S1.sd.n S1.sd.c) rfl
 obtain ⟨b6,d6⟩:=ro_cf kb.out 6 (.slice S1.ut.A S1.ut.n S1.ut.c) rfl
 obtain ⟨c0,e0⟩:=ro_cf kr.out 0 (.slice none 0 0) rfl
 obtain ⟨c1,e1⟩:=ro_cf kr.out 1 (.slice none 0 0) rfl
 obtain ⟨c2,e2⟩:=ro_cf kr.out 2 (.slice none 0 0) rfl
 obtain ⟨c3,e3⟩:=ro_cf kr.out 3 (.slice none 0 0) rfl
 obtain ⟨c4,e4⟩:=ro_cf kr.out 4 (.slice none 0 0) rfl
 obtain ⟨c5,e5⟩:=ro_cf kr.out 5 (.slice none 0 0) rfl
 obtain ⟨c6,e6⟩:=ro_cf kr.out 6 (.slice none 0 0) rfl
 have kf:=(ro_set7' (x0:=.slice S1.ti.A S1.ti.n S1.ti.c) (x1:=.slice S1.ix.A S1.ix.n S1.ix.c) (x2:=.slice S1.ty.A S1.ty.n S1.ty.c) (x3:=.slice S1.ch.A S1.ch.n S1.ch.c) (x4:=.slice S1.lp.A S1.lp.n S1.lp.c) (x5:=.slice S1.sd.A S1.sd.n S1.sd.c) (x6:=.slice S1.ut.A S1.ut.n S1.ut.c) kr.out)
 have Bf:=((((((((But.refl g_r w6).set (o:=0) (.slice S1.ti.A S1.ti.n S1.ti.c)).set (o:=1) (.slice S1.ix.A S1.ix.n S1.ix.c)).set (o:=2) (.slice S1.ty.A S1.ty.n S1.ty.c)).set (o:=3) (.slice S1.ch.A S1.ch.n S1.ch.c)).set (o:=4) (.slice S1.lp.A S1.lp.n S1.lp.c)).set (o:=5) (.slice S1.sd.A S1.sd.n S1.sd.c)).set (o:=6) (.slice S1.ut.A S1.ut.n S1.ut.c))
 have kx:=hide (ro_but k6.out Bf dgb.out.2.2.1.symm)
 have hBx:=hide (((((((hB.out.setNew (g:=g_r) (o:=0) (by have:=hgr.out;omega) (.slice S1.ti.A S1.ti.n S1.ti.c)).setNew (g:=g_r) (o:=1) (by have:=hgr.out;omega) (.slice S1.ix.A S1.ix.n S1.ix.c)).setNew (g:=g_r) (o:=2) (by have:=hgr.out;omega) (.slice S1.ty.A S1.ty.n S1.ty.c)).setNew (g:=g_r) (o:=3) (by have:=hgr.out;omega) (.slice S1.ch.A S1.ch.n S1.ch.c)).setNew (g:=g_r) (o:=4) (by have:=hgr.out;omega) (.slice S1.lp.A S1.lp.n S1.lp.c)).setNew (g:=g_r) (o:=5) (by have:=hgr.out;omega) (.slice S1.sd.A S1.sd.n S1.sd.c)).setNew (g:=g_r) (o:=6) (by have:=hgr.out;omega) (.slice S1.ut.A S1.ut.n S1.ut.c))
 have ox:=hide (o1.out.but (g:=g_r) (by have:=sb.out;have:=dgb.out;have:=gw.out;omega) Bf)
 obtain ⟨f0,_⟩:=ro_cf kf 0 (.slice S1.ti.A S1.ti.n S1.ti.c) rfl
 obtain ⟨f1,_⟩:=ro_cf kf 1 (.slice S1.ix.A S1.ix.n S1.ix.c) rfl
 obtain ⟨f2,_⟩:=ro_cf kf 2 (.slice S1.ty.A S1.ty.n S1.ty.c) rfl
 obtain ⟨f3,_⟩:=ro_cf kf 3 (.slice S1.ch.A S1.ch.n S1.ch.c) rfl
 obtain ⟨f4,_⟩:=ro_cf kf 4 (.slice S1.lp.A S1.lp.n S1.lp.c) rfl
 obtain ⟨f5,_⟩:=ro_cf kf 5 (.slice S1.sd.A S1.sd.n S1.sd.c) rfl
 obtain ⟨f6,_⟩:=ro_cf kf 6 (.slice S1.ut.A S1.ut.n S1.ut.c) rfl
 clear kf Bf hHeld
 have og:=hide (show w.heap.size≤u0.heap.size by have:=sb.out;have:=dgb.out;have:=hgr.out;omega)
 go_wp2
 exact bodyPost_ret (v:=bkV S1) (by simp [results,Tryz.results34,go_sem,f0,f1,f2,f3,f4,f5,f6]) rfl ⟨S1,rfl,kx.out,ox.out.mono og.out,hBx.out⟩
theorem firstBlock {w0:World} {A:Option Addr} {n c:Nat} {xs:List Int} (I:PIn w0 A n c xs) (g p:Nat) (s:Int) (h:Hd) (v:Int) (S S':BkS) (f:ByteArray) (w:World) (hg:w0.heap.size≤g) (hl:Below w0.heap.size w0 w) (hp:p≤n) (hok:h.ok) (hv0:1≤v) (hv1:v≤4) {Q:Bk} {P E T:Int}
 (hd:decB 4 h.ut.toNat h.sd.toNat h.lp.toNat h.tm.toNat h.ty.toNat h.ch.toNat xs p s=(Q,P,E,T)) (ko:Ro w g (psA A n c p 0 0 s h v S S' f) 57) :
 Calls Tryz.prog 21 #[.pointer (some ⟨g,0,none⟩)] w fun z w'=>∃ S1,z=.returned (.tuple #[])∧Ro w' g (psA A n c P (fe E (vB Q (decide (v=4)) 4)) (fa E T (vB Q (decide (v=4)) 4) s) s h v S1 S' f) 57∧OwBk w' w.heap.size S1 Q∧But g w w':=by
 have C:=hide (fun w hl k=>readBlock I g p 4 4 s h v S S' f w hg hl hp rfl (.inl rfl) hok hv0 hv1 hd k)
 generalize fe E (vB Q (decide (v=4)) 4)=e1 at *
 generalize fa E T (vB Q (decide (v=4)) 4) s=a1 at *
 obtain ⟨cs1,hcs1⟩:∃ zz,zz=psA A n c P e1 a1 s h v S S' f:=⟨_,rfl⟩
 have r13:=hide (show cs1[13]?=some (.slice S.ti.A S.ti.n S.ti.c) by rw [hcs1];rfl)
 have r14:=hide (show cs1[14]?=some (.slice S.ix.A S.ix.n S.ix.c) by rw [hcs1];rfl)
 have r15:=hide (show cs1[15]?=some (.slice S.ty.A S.ty.n S.ty.c) by rw [hcs1];rfl)
 have r16:=hide (show cs1[16]?=some (.slice S.ch.A S.ch.n S.ch.c) by rw [hcs1];rfl)
 have r17:=hide (show cs1[17]?=some (.slice S.lp.A S.lp.n S.lp.c) by rw [hcs1];rfl)
 have r18:=hide (show cs1[18]?=some (.slice S.sd.A S.sd.n S.sd.c) by rw [hcs1];rfl)
 have r19:=hide (show cs1[19]?=some (.slice S.ut.A S.ut.n S.ut.c) by rw [hcs1];rfl)
 have N:=hide (fun (S1:BkS)=>show (((((((cs1.setIfInBounds 13 (.slice S1.ti.A S1.ti.n S1.ti.c)).setIfInBounds 14 (.slice S1.ix.A S1.ix.n S1.ix.c)).setIfInBounds 15 (.slice S1.ty.A S1.ty.n S1.ty.c)).setIfInBounds 16 (.slice S1.ch.A S1.ch.n S1.ch.c)).setIfInBounds 17 (.slice S1.lp.A S1.lp.n S1.lp.c)).setIfInBounds 18 (.slice S1.sd.A S1.sd.n S1.sd.c)).setIfInBounds 19 (.slice S1.ut.A S1.ut.n S1.ut.c))=psA A n c P e1 a1 s h v S1 S' f by rw [hcs1];unfold psA;simp only [List.setIfInBounds_toArray];rfl)
 rw [← hcs1] at C
 clear hcs1 hd
 have gw:=ko.lt
 generalize psA A n c p 0 0 s h v S S' f=cs at *
 replace ko:=hide ko
 replace hl:=hide hl
 replace gw:=hide gw
 go_enter Tryz.func21,Tryz.ntmps21
 go_wp2_with fail
 refine (C.out _ hl.out ko.out).mono ?_
 rintro z w1 ⟨S1,rfl,k1,o1,hB⟩
 clear ko C
 have k:=hide k1
 replace hB:=hide hB
 replace o1:=hide o1
 clear k1
 obtain ⟨y13,z13⟩:=ro_cf k.out 13 _ r13.out
 obtain ⟨y14,z14⟩:=ro_cf k.out 14 _ r14.out
 obtain ⟨y15,z15⟩:=ro_cf k.out 15 _ r15.out
 obtain ⟨y16,z16⟩:=ro_cf k.out 16 _ r16.out
 obtain ⟨y17,z17⟩:=ro_cf k.out 17 _ r17.out
 obtain ⟨y18,z18⟩:=ro_cf k.out 18 _ r18.out
 obtain ⟨y19,z19⟩:=ro_cf k.out 19 _ r19.out
 go_wp2
 go_end0
 exact ⟨S1,rfl,by have:=(ro_set (ro_set (ro_set (ro_set (ro_set (ro_set (ro_set k.out 13 (.slice S1.ti.A S1.ti.n S1.ti.c)) 14 (.slice S1.ix.A S1.ix.n S1.ix.c)) 15 (.slice S1.ty.A S1.ty.n S1.ty.c)) 16 (.slice S1.ch.A S1.ch.n S1.ch.c)) 17 (.slice S1.lp.A S1.lp.n S1.lp.c)) 18 (.slice S1.sd.A S1.sd.n S1.sd.c)) 19 (.slice S1.ut.A S1.ut.n S1.ut.c));rwa [N.out] at this,o1.out.but gw.out ((((((((But.refl g w1).set (o:=13) (.slice S1.ti.A S1.ti.n S1.ti.c)).set (o:=14) (.slice S1.ix.A S1.ix.n S1.ix.c)).set (o:=15) (.slice S1.ty.A S1.ty.n S1.ty.c)).set (o:=16) (.slice S1.ch.A S1.ch.n S1.ch.c)).set (o:=17) (.slice S1.lp.A S1.lp.n S1.lp.c)).set (o:=18) (.slice S1.sd.A S1.sd.n S1.sd.c)).set (o:=19) (.slice S1.ut.A S1.ut.n S1.ut.c)),(((((((hB.out.set (o:=13) (.slice S1.ti.A S1.ti.n S1.ti.c)).set (o:=14) (.slice S1.ix.A S1.ix.n S1.ix.c)).set (o:=15) (.slice S1.ty.A S1.ty.n S1.ty.c)).set (o:=16) (.slice S1.ch.A S1.ch.n S1.ch.c)).set (o:=17) (.slice S1.lp.A S1.lp.n S1.lp.c)).set (o:=18) (.slice S1.sd.A S1.sd.n S1.sd.c)).set (o:=19) (.slice S1.ut.A S1.ut.n S1.ut.c))⟩
theorem secondBlock {w0:World} {A:Option Addr} {n c:Nat} {xs:List Int} (I:PIn w0 A n c xs) (g p:Nat) (s:Int) (h:Hd) (v:Int) (S S':BkS) (f:ByteArray) (w:World) (hg:w0.heap.size≤g) (hl:Below w0.heap.size w0 w) (hp:p≤n) (hok:h.ok) (hv0:1≤v) (hv1:v≤4) {Q:Bk} {P E T:Int}
 (hd:decB 8 h.ut.toNat h.sd.toNat h.lp.toNat h.tm.toNat h.ty.toNat h.ch.toNat xs p s=(Q,P,E,T)) (ko:Ro w g (psA A n c p 0 0 s h v S S' f) 57) :
 Calls Tryz.prog 37 #[.pointer (some ⟨g,0,none⟩)] w fun z w'=>∃ S1,z=.returned (.tuple #[])∧Ro w' g (psA A n c P (fe E (vB Q (decide (v=4)) 8)) (fa E T (vB Q (decide (v=4)) 8) s) s h v S S1 f) 57∧OwBk w' w.heap.size S1 Q∧But g w w':=by
 have C:=hide (fun w hl k=>readBlock I g p 8 8 s h v S S' f w hg hl hp rfl (.inr rfl) hok hv0 hv1 hd k)
 generalize fe E (vB Q (decide (v=4)) 8)=e1 at *
 generalize fa E T (vB Q (decide (v=4)) 8) s=a1 at *
 obtain ⟨cs1,hcs1⟩:∃ zz,zz=psA A n c P e1 a1 s h v S S' f:=⟨_,rfl⟩
 have r20:=hide (show cs1[20]?=some (.slice S'.ti.A S'.ti.n S'.ti.c) by rw [hcs1];rfl)
 have r21:=hide (show cs1[21]?=some (.slice S'.ix.A S'.ix.n S'.ix.c) by rw [hcs1];rfl)
 have r22:=hide (show cs1[22]?=some (.slice S'.ty.A S'.ty.n S'.ty.c) by rw [hcs1];rfl)
 have r23:=hide (show cs1[23]?=some (.slice S'.ch.A S'.ch.n S'.ch.c) by rw [hcs1];rfl)
 have r24:=hide (show cs1[24]?=some (.slice S'.lp.A S'.lp.n S'.lp.c) by rw [hcs1];rfl)
 have r25:=hide (show cs1[25]?=some (.slice S'.sd.A S'.sd.n S'.sd.c) by rw [hcs1];rfl)
 have r26:=hide (show cs1[26]?=some (.slice S'.ut.A S'.ut.n S'.ut.c) by rw [hcs1];rfl)
 have N:=hide (fun (S1:BkS)=>show (((((((cs1.setIfInBounds 20 (.slice S1.ti.A S1.ti.n S1.ti.c)).setIfInBounds 21 (.slice S1.ix.A S1.ix.n S1.ix.c)).setIfInBounds 22 (.slice S1.ty.A S1.ty.n S1.ty.c)).setIfInBounds 23 (.slice S1.ch.A S1.ch.n S1.ch.c)).setIfInBounds 24 (.slice S1.lp.A S1.lp.n S1.lp.c)).setIfInBounds 25 (.slice S1.sd.A S1.sd.n S1.sd.c)).setIfInBounds 26 (.slice S1.ut.A S1.ut.n S1.ut.c))=psA A n c P e1 a1 s h v S S1 f by rw [hcs1];unfold psA;simp only [List.setIfInBounds_toArray];rfl)
 rw [← hcs1] at C
 clear hcs1 hd
 have gw:=ko.lt
 generalize psA A n c p 0 0 s h v S S' f=cs at *
 replace ko:=hide ko
 replace hl:=hide hl
 replace gw:=hide gw
 go_enter Tryz.func37,Tryz.ntmps37
 go_wp2_with fail
 refine (C.out _ hl.out ko.out).mono ?_
 rintro z w1 ⟨S1,rfl,k1,o1,hB⟩
 clear ko C
 have k:=hide k1
 replace hB:=hide hB
 replace o1:=hide o1
 clear k1
 obtain ⟨y20,z20⟩:=ro_cf k.out 20 _ r20.out
 obtain ⟨y21,z21⟩:=ro_cf k.out 21 _ r21.out
 obtain ⟨y22,z22⟩:=ro_cf k.out 22 _ r22.out
 obtain ⟨y23,z23⟩:=ro_cf k.out 23 _ r23.out
 obtain ⟨y24,z24⟩:=ro_cf k.out 24 _ r24.out
 obtain ⟨y25,z25⟩:=ro_cf k.out 25 _ r25.out
 obtain ⟨y26,z26⟩:=ro_cf k.out 26 _ r26.out
 go_wp2
 go_end0
 exact ⟨S1,rfl,by have:=(ro_set (ro_set (ro_set (ro_set (ro_set (ro_set (ro_set k.out 20 (.slice S1.ti.A S1.ti.n S1.ti.c)) 21 (.slice S1.ix.A S1.ix.n S1.ix.c)) 22 (.slice S1.ty.A S1.ty.n S1.ty.c)) 23 (.slice S1.ch.A S1.ch.n S1.ch.c)) 24 (.slice S1.lp.A S1.lp.n S1.lp.c)) 25 (.slice S1.sd.A S1.sd.n S1.sd.c)) 26 (.slice S1.ut.A S1.ut.n S1.ut.c));rwa [N.out] at this,o1.out.but gw.out ((((((((But.refl g w1).set (o:=20) (.slice S1.ti.A S1.ti.n S1.ti.c)).set (o:=21) (.slice S1.ix.A S1.ix.n S1.ix.c)).set (o:=22) (.slice S1.ty.A S1.ty.n S1.ty.c)).set (o:=23) (.slice S1.ch.A S1.ch.n S1.ch.c)).set (o:=24) (.slice S1.lp.A S1.lp.n S1.lp.c)).set (o:=25) (.slice S1.sd.A S1.sd.n S1.sd.c)).set (o:=26) (.slice S1.ut.A S1.ut.n S1.ut.c)),(((((((hB.out.set (o:=20) (.slice S1.ti.A S1.ti.n S1.ti.c)).set (o:=21) (.slice S1.ix.A S1.ix.n S1.ix.c)).set (o:=22) (.slice S1.ty.A S1.ty.n S1.ty.c)).set (o:=23) (.slice S1.ch.A S1.ch.n S1.ch.c)).set (o:=24) (.slice S1.lp.A S1.lp.n S1.lp.c)).set (o:=25) (.slice S1.sd.A S1.sd.n S1.sd.c)).set (o:=26) (.slice S1.ut.A S1.ut.n S1.ut.c))⟩
end zf_
theorem rd_lm (W:World) (l:List Value) (T:TypeId) (p:Nat × Nat):Rd (W.alloc (.cells l.toArray T p)) (some ⟨W.heap.size,0,none⟩) l.length l:=by
 refine ⟨rfl,fun h=>⟨_,rfl,fun i v hv=>?_⟩⟩
 rw [addr_flat,Nat.zero_add]
 have e:(W.alloc (.cells l.toArray T p)).cell? ⟨W.heap.size,i,none⟩=l.toArray[i]?:=by
  simp only [World.cell?,World.alloc,Array.getElem?_push,if_true,Option.isSome_none,Bool.false_eq_true,if_false]
 rw [e]
 exact (List.getElem?_toArray ..).trans hv
def nlR (l:List Int) (p:Nat):Int × Int × Int:=if l.length≤p then ((p:Int),1,(l.length:Int)) else if l[p]?.getD 0=10 then (((p+1:Nat):Int),0,0) else ((p:Int),14,(p:Int))
def ftR (l:List Int) (p:Nat):List Int × Int × Int × Int:=if p+(ftL l p).length=l.length then ([],(p:Int),1,(l.length:Int)) else (ftL l p,((p+(ftL l p).length:Nat):Int),0,0)
theorem convO {W:World} {A:Option Addr} {b n c:Nat} {e:TypeId} {xs:List Int} (h:Ow W b e A n c (xs.map (Value.int .u8))) (hb:IsB xs):(convert 22 9 (.slice A n c)).run Tryz.prog W=.ok (.string (bS xs)) W:=by
 cases A with
 | none =>
   obtain ⟨rfl,rfl⟩:=h.nilcap rfl
   obtain rfl:xs=[]:=List.eq_nil_of_length_eq_zero (by have:=h.len;simpa using this)
   rfl
 | some ad=>exact convS h.rd hb
theorem fld1 {l:List Int} {p:Nat} {x:Int} (h:l[p]?=some x):fld l p 1=[x]:=by
 have hp:p<l.length:=(List.getElem?_eq_some_iff.1 h).1
 unfold fld
 rw [List.drop_eq_getElem_cons hp]
 rw [List.getElem?_eq_getElem hp] at h
 injection h with h
 rw [h]
 rfl
section
variable {w0:World} {A:Option Addr} {n c:Nat} {xs:List Int}
theorem ExpNl (I:PIn w0 A n c xs) (p:Nat) (hp:p≤n) (W:World) (hW:Below w0.heap.size w0 W) (B:Option Addr) (d:Nat) (hB:Rd W B 1 [.int .u8 10]) {q e a:Int} (hd:nlR xs p=(q,e,a)) :
 Calls Tryz.prog 78 #[cu A n c p 0 0,.slice B 1 d,.int .i64 14] W fun z w'=>z=.returned (cu A n c q e a)∧Below W.heap.size W w':=by
 have hl:=I.len
 have hsm:=I.sm
 unfold nlR at hd
 split at hd
 ·rename_i h
  simp only [Prod.mk.injEq] at hd
  obtain ⟨rfl,rfl,rfl⟩:=hd
  rw [hl]
  exact cu_.Expect_no A n c p 0 14 B 1 d W (by omega) (by omega) (by omega) (by omega)
 ·rename_i h
  have hx:xs[p]?=some (xs[p]'(by omega)):=List.getElem?_eq_getElem (by omega)
  rw [hx] at hd
  dsimp only [Option.getD_some] at hd
  split at hd
  ·rename_i h10
   simp only [Prod.mk.injEq] at hd
   obtain ⟨rfl,rfl,rfl⟩:=hd
   exact cu_.Expect_yes A n c xs p 14 B 1 d W I.nc I.cm (by omega) (I.r.below hW) (by rw [fld1 hx,h10];exact hB)
  ·rename_i h10
   simp only [Prod.mk.injEq] at hd
   obtain ⟨rfl,rfl,rfl⟩:=hd
   have:=cu_.Expect_differ A n c xs p 14 B 1 d [10] 0 W I.nc I.cm (by omega) (I.r.below hW) hB (by omega) (by decide) (fun j hj=>by omega) (by rw [fld1 hx];exact h10)
   rw [show ((p:Int)+((0:Nat):Int))=p by omega] at this
   exact this
theorem TakeF (I:PIn w0 A n c xs) (p:Nat) (hp:p≤n) (W:World) (hW:Below w0.heap.size w0 W) {ft:List Int} {q e a:Int} (hd:ftR xs p=(ft,q,e,a)) :
 Calls Tryz.prog 80 #[cu A n c p 0 0,.int .i64 (nlAt xs p)] W fun z w'=>∃ A' c',z=.returned (.tuple #[.slice A' ft.length c',cu A n c q e a])∧Ow w' W.heap.size 5 A' ft.length c' (ft.map (Value.int .u8))∧Below W.heap.size W w':=by
 have hl:=I.len
 have hsm:=I.sm
 unfold ftR at hd
 unfold nlAt
 split at hd
 ·rename_i h
  simp only [Prod.mk.injEq] at hd
  obtain ⟨rfl,rfl,rfl,rfl⟩:=hd
  rw [if_pos h,hl]
  exact cu_.Take_no A n c p 0 (-1) W (by omega) (by omega) (by omega) (.inl (by decide))
 ·rename_i h
  simp only [Prod.mk.injEq] at hd
  obtain ⟨rfl,rfl,rfl,rfl⟩:=hd
  rw [if_neg h]
  have hlt:=(ftL_at (by rw [hl];exact hp) h).1
  have:=cu_.Take_yes A n c xs p (ftL xs p).length W I.z I.nc I.cm (by omega) (by omega) (I.r.below hW)
  rw [ftL_take] at this
  exact this
theorem cut_ad (I:PIn w0 A n c xs) {p:Nat} (hp:p≤n) (h0:0<p):∃ ad,(if c=p then A else A.map (·.add p))=some ad∧Rd w0 (some ad) (n - p) (bys (xs.drop p)):=by
 obtain ⟨a0,rfl,_⟩:=I.r.2 (by omega)
 have hr:=I.r.cut (k:=p) (cap:=c) hp I.nc
 rw [← List.map_drop] at hr
 by_cases hcp:c=p
 ·rw [if_pos hcp] at hr ⊢
  exact ⟨_,rfl,hr⟩
 ·rw [if_neg hcp] at hr ⊢
  exact ⟨_,rfl,hr⟩
end
namespace zf_
theorem readNewline {w0:World} {A:Option Addr} {n c:Nat} {xs:List Int} (I:PIn w0 A n c xs) (g p:Nat) (s:Int) (h:Hd) (v:Int) (S S':BkS) (f:ByteArray) (w:World) (hg:w0.heap.size≤g) (hl:Below w0.heap.size w0 w) (hp:p≤n) {q e a:Int} (hd:nlR xs p=(q,e,a)) (ko:Ro w g (psA A n c p 0 0 s h v S S' f) 57) :
 Calls Tryz.prog 38 #[.pointer (some ⟨g,0,none⟩)] w fun z w'=>z=.returned (.tuple #[])∧Ro w' g (psA A n c q e a s h v S S' f) 57∧But g w w':=by
 have C:=hide (fun W (hW:Below w0.heap.size w0 W) B d (hB:Rd W B 1 [.int .u8 10])=>ExpNl I p hp W hW B d hB hd)
 obtain ⟨cs,hcs⟩:∃ zz,zz=psA A n c p 0 0 s h v S S' f:=⟨_,rfl⟩
 obtain ⟨cs1,hcs1⟩:∃ zz,zz=psA A n c q e a s h v S S' f:=⟨_,rfl⟩
 have q0:=hide (show cs[0]?=some (.slice A n c) by rw [hcs];rfl)
 have q1:=hide (show cs[1]?=some (.int .i64 p) by rw [hcs];rfl)
 have q2:=hide (show cs[2]?=some (.int .i64 0) by rw [hcs];rfl)
 have q3:=hide (show cs[3]?=some (.int .i64 0) by rw [hcs];rfl)
 have N:=hide (show ((((cs.setIfInBounds 0 (.slice A n c)).setIfInBounds 1 (.int .i64 q)).setIfInBounds 2 (.int .i64 e)).setIfInBounds 3 (.int .i64 a))=cs1 by rw [hcs,hcs1];unfold psA;simp only [List.setIfInBounds_toArray];rfl)
 rw [← hcs] at ko
 rw [← hcs1]
 clear hcs hcs1 hd
 have kc:=Lib.run_convert_bytes_const (P:=Tryz.prog) w 22 5 #[.int .u8 10] 1 1 Tryz.underlying22 Tryz.underlying5
 have rl:=hide (rd_lm w [.int .u8 10] 5 (1,2))
 have k:=hide (ko.alloc (.cells #[.int .u8 10] 5 (1,2)))
 have hB:=hide ((But.refl g w).alloc (.cells #[.int .u8 10] 5 (1,2)))
 replace hl:=hide (bl_alloc hl (.cells #[.int .u8 10] 5 (1,2)))
 replace ko:=hide ko
 obtain ⟨y0,z0⟩:=ro_cf ko.out 0 _ q0.out
 obtain ⟨y1,z1⟩:=ro_cf ko.out 1 _ q1.out
 obtain ⟨y2,z2⟩:=ro_cf ko.out 2 _ q2.out
 obtain ⟨y3,z3⟩:=ro_cf ko.out 3 _ q3.out
 go_enter Tryz.func38,Tryz.ntmps38
 go_wp2_with fail
 refine (C.out _ hl.out _ _ rl.out).mono ?_
 rintro z w1 ⟨rfl,h1⟩
 replace k:=hide (k.out.below h1)
 replace hB:=hide (hB.out.next h1)
 clear C h1 kc rl ko
 clear y0 z0 y1 z1 y2 z2 y3 z3
 obtain ⟨y0,z0⟩:=ro_cf k.out 0 _ q0.out
 obtain ⟨y1,z1⟩:=ro_cf k.out 1 _ q1.out
 obtain ⟨y2,z2⟩:=ro_cf k.out 2 _ q2.out
 obtain ⟨y3,z3⟩:=ro_cf k.out 3 _ q3.out
 go_wp2_with fail
 go_end0
 exact ⟨rfl,by have:=(ro_set (ro_set (ro_set (ro_set k.out 0 (.slice A n c)) 1 (.int .i64 q)) 2 (.int .i64 e)) 3 (.int .i64 a));rwa [N.out] at this,((((hB.out.set (o:=0) (.slice A n c)).set (o:=1) (.int .i64 q)).set (o:=2) (.int .i64 e)).set (o:=3) (.int .i64 a))⟩
theorem checkFooter {w0:World} {A:Option Addr} {n c:Nat} {xs:List Int} (I:PIn w0 A n c xs) (g:Nat) (p:Int) (sN:Nat) (h:Hd) (v:Int) (S S':BkS) (f:ByteArray) (B:Bk) (w:World) (hg:w0.heap.size≤g) (hl:Below w0.heap.size w0 w) (hsN:sN≤1000000) (hb:IsBk w S' B) (hs:S'.small) (hf:f.size≤1000000) (hB:byt f≠[]→BOk B (decide (v=4)) 8) (ko:Ro w g (psA A n c p 0 0 ((sN:Int)) h v S S' f) 57) :
 Calls Tryz.prog 40 #[.pointer (some ⟨g,0,none⟩)] w fun z w'=>z=.returned (.tuple #[])∧Ro w' g (psA A n c p ((vF (byt f) v B).1) (fa 0 0 (vF (byt f) v B).1 ((sN:Int)+(vF (byt f) v B).2)) ((sN:Int)) h v S S' f) 57∧But g w w':=by
 have sh:=vF_shape (byt f) v B
 have C:=hide (fun W (hW:Below w0.heap.size w0 W) (h1:IsBk W S' B)=>vd_.Footer v S S' f B (decide (v=4)) W (I.t.1.below hW) h1 hs hf hB)
 have F:=hide (fun w=>fail A n c p 0 0 sN h v S S' f g (vF (byt f) v B).1 ((sN:Int)+(vF (byt f) v B).2) w)
 dsimp only [flA] at C
 rw [show fe 0 (vF (byt f) v B).1=(vF (byt f) v B).1 from if_neg (fun h=>h rfl)] at F
 generalize vF (byt f) v B=pp at *
 obtain ⟨p1,p2⟩:=pp
 dsimp only at sh C F ⊢
 rw [len_byt] at sh
 have iw:IntKind.i64.wrap ((sN:Int)+p2)=(sN:Int)+p2:=by rw [IntKind.wrap_i64];rcases sh with ⟨_,s1,s2⟩ | ⟨_,s1⟩ <;> omega
 clear sh hB hs
 obtain ⟨cs,hcs⟩:∃ zz,zz=psA A n c p 0 0 ((sN:Int)) h v S S' f:=⟨_,rfl⟩
 obtain ⟨cs1,hcs1⟩:∃ zz,zz=psA A n c p p1 (fa 0 0 p1 ((sN:Int)+p2)) ((sN:Int)) h v S S' f:=⟨_,rfl⟩
 have q4:=hide (show cs[4]?=some (.int .i64 ((sN:Int))) by rw [hcs];rfl)
 have q12:=hide (show cs[12]?=some (.int .i64 v) by rw [hcs];rfl)
 have q13:=hide (show cs[13]?=some (.slice S.ti.A S.ti.n S.ti.c) by rw [hcs];rfl)
 have q14:=hide (show cs[14]?=some (.slice S.ix.A S.ix.n S.ix.c) by rw [hcs];rfl)
 have q15:=hide (show cs[15]?=some (.slice S.ty.A S.ty.n S.ty.c) by rw [hcs];rfl)
 have q16:=hide (show cs[16]?=some (.slice S.ch.A S.ch.n S.ch.c) by rw [hcs];rfl)
 have q17:=hide (show cs[17]?=some (.slice S.lp.A S.lp.n S.lp.c) by rw [hcs];rfl)
 have q18:=hide (show cs[18]?=some (.slice S.sd.A S.sd.n S.sd.c) by rw [hcs];rfl)
 have q19:=hide (show cs[19]?=some (.slice S.ut.A S.ut.n S.ut.c) by rw [hcs];rfl)
 have q20:=hide (show cs[20]?=some (.slice S'.ti.A S'.ti.n S'.ti.c) by rw [hcs];rfl)
 have q21:=hide (show cs[21]?=some (.slice S'.ix.A S'.ix.n S'.ix.c) by rw [hcs];rfl)
 have q22:=hide (show cs[22]?=some (.slice S'.ty.A S'.ty.n S'.ty.c) by rw [hcs];rfl)
 have q23:=hide (show cs[23]?=some (.slice S'.ch.A S'.ch.n S'.ch.c) by rw [hcs];rfl)
 have q24:=hide (show cs[24]?=some (.slice S'.lp.A S'.lp.n S'.lp.c) by rw [hcs];rfl)
 have q25:=hide (show cs[25]?=some (.slice S'.sd.A S'.sd.n S'.sd.c) by rw [hcs];rfl)
 have q26:=hide (show cs[26]?=some (.slice S'.ut.A S'.ut.n S'.ut.c) by rw [hcs];rfl)
 have q27:=hide (show cs[27]?=some (.string f) by rw [hcs];rfl)
 rw [← hcs] at ko F
 rw [← hcs1] at F ⊢
 clear hcs hcs1
 replace ko:=hide ko
 replace hl:=hide hl
 replace hb:=hide hb
 obtain ⟨y12,z12⟩:=ro_cf ko.out 12 _ q12.out
 obtain ⟨y13,z13⟩:=ro_cf ko.out 13 _ q13.out
 obtain ⟨y14,z14⟩:=ro_cf ko.out 14 _ q14.out
 obtain ⟨y15,z15⟩:=ro_cf ko.out 15 _ q15.out
 obtain ⟨y16,z16⟩:=ro_cf ko.out 16 _ q16.out
 obtain ⟨y17,z17⟩:=ro_cf ko.out 17 _ q17.out
 obtain ⟨y18,z18⟩:=ro_cf ko.out 18 _ q18.out
 obtain ⟨y19,z19⟩:=ro_cf ko.out 19 _ q19.out
 obtain ⟨y20,z20⟩:=ro_cf ko.out 20 _ q20.out
 obtain ⟨y21,z21⟩:=ro_cf ko.out 21 _ q21.out
 obtain ⟨y22,z22⟩:=ro_cf ko.out 22 _ q22.out
 obtain ⟨y23,z23⟩:=ro_cf ko.out 23 _ q23.out
 obtain ⟨y24,z24⟩:=ro_cf ko.out 24 _ q24.out
 obtain ⟨y25,z25⟩:=ro_cf ko.out 25 _ q25.out
 obtain ⟨y26,z26⟩:=ro_cf ko.out 26 _ q26.out
 obtain ⟨y27,z27⟩:=ro_cf ko.out 27 _ q27.out
 go_enter Tryz.func40,Tryz.ntmps40
 go_wp2_with fail
 refine (C.out _ hl.out hb.out).mono ?_
 rintro z w1 ⟨rfl,h1⟩
 have k:=hide (ko.out.below h1)
 have hB:=hide (But.of (b:=g) h1)
 clear C h1 ko
 clear y12 z12 y13 z13 y14 z14 y15 z15 y16 z16 y17 z17 y18 z18 y19 z19 y20 z20 y21 z21 y22 z22 y23 z23 y24 z24 y25 z25 y26 z26 y27 z27
 obtain ⟨y4,z4⟩:=ro_cf k.out 4 _ q4.out
 go_wp2_with fail
 refine (F.out _ k.out).mono ?_
 rintro z w2 ⟨rfl,k2,hB2⟩
 replace k2:=hide k2
 replace hB:=hide (hB.out.trans hB2)
 clear hB2 y4 z4
 go_wp2
 go_end0
 exact ⟨rfl,k2.out,hB.out⟩
theorem readEnd {w0:World} {A:Option Addr} {n c:Nat} {xs:List Int} (I:PIn w0 A n c xs) (g p:Nat) (s:Int) (h:Hd) (v:Int) (S S':BkS) (f:ByteArray) (w:World) (hp:p≤n) (ko:Ro w g (psA A n c p 0 0 s h v S S' f) 57) :
 Calls Tryz.prog 35 #[.pointer (some ⟨g,0,none⟩)] w fun z w'=>z=.returned (.tuple #[])∧Ro w' g (psA A n c p ((if p<n then 2 else 0)) ((if p<n then (p:Int) else 0)) s h v S S' f) 57∧But g w w':=by
 by_cases hlt:p<n
 ·rw [if_pos hlt,if_pos hlt]
  have d1:decide ((0:Int)<(n:Int) - (p:Int))=true:=decide_eq_true (by omega)
  have d2:(0:Int)<(n:Int) - (p:Int):=by omega
  have C:=hide (fun w=>cu_.Rest_ok A n c p 0 w (by have:=I.sm;omega) (by omega) (by omega))
  replace d2:=hide d2
  have F:=hide (fun w=>fail A n c p 0 0 s h v S S' f g 2 p w)
  rw [show fe 0 2=2 from rfl,show fa 0 0 2 (p:Int)=p from rfl] at F
  obtain ⟨cs,hcs⟩:∃ zz,zz=psA A n c p 0 0 s h v S S' f:=⟨_,rfl⟩
  obtain ⟨cs1,hcs1⟩:∃ zz,zz=psA A n c p 2 p s h v S S' f:=⟨_,rfl⟩
  have q0:=hide (show cs[0]?=some (.slice A n c) by rw [hcs];rfl)
  have q1:=hide (show cs[1]?=some (.int .i64 p) by rw [hcs];rfl)
  have q2:=hide (show cs[2]?=some (.int .i64 0) by rw [hcs];rfl)
  have q3:=hide (show cs[3]?=some (.int .i64 0) by rw [hcs];rfl)
  rw [← hcs] at ko F
  rw [← hcs1] at F ⊢
  clear hcs hcs1
  generalize (n:Int) - (p:Int)=r at *
  replace hlt:=hide hlt
  replace ko:=hide ko
  obtain ⟨y0,z0⟩:=ro_cf ko.out 0 _ q0.out
  obtain ⟨y1,z1⟩:=ro_cf ko.out 1 _ q1.out
  obtain ⟨y2,z2⟩:=ro_cf ko.out 2 _ q2.out
  obtain ⟨y3,z3⟩:=ro_cf ko.out 3 _ q3.out
  go_enter Tryz.func35,Tryz.ntmps35
  go_wp2_with fail
  refine (C.out _).mono ?_
  rintro z w1 ⟨rfl,h1⟩
  have k:=hide (ko.out.below h1)
  have hB:=hide (But.of (b:=g) h1)
  clear C h1 ko
  clear y0 z0 y1 z1 y2 z2 y3 z3
  obtain ⟨y1,z1⟩:=ro_cf k.out 1 _ q1.out
  go_wp2_with fail
  refine (F.out _ k.out).mono ?_
  rintro z w2 ⟨rfl,k2,hB2⟩
  replace k2:=hide k2
  replace hB:=hide (hB.out.trans hB2)
  clear hB2
  go_wp2
  go_end0
  exact ⟨rfl,k2.out,hB.out⟩
 ·rw [if_neg hlt,if_neg hlt]
  have d1:decide ((0:Int)<(n:Int) - (p:Int))=false:=decide_eq_false (by omega)
  have d2:¬ (0:Int)<(n:Int) - (p:Int):=by omega
  have C:=hide (fun w=>cu_.Rest_ok A n c p 0 w (by have:=I.sm;omega) (by omega) (by omega))
  replace d2:=hide d2
  obtain ⟨cs,hcs⟩:∃ zz,zz=psA A n c p 0 0 s h v S S' f:=⟨_,rfl⟩
  have q0:=hide (show cs[0]?=some (.slice A n c) by rw [hcs];rfl)
  have q1:=hide (show cs[1]?=some (.int .i64 p) by rw [hcs];rfl)
  have q2:=hide (show cs[2]?=some (.int .i64 0) by rw [hcs];rfl)
  have q3:=hide (show cs[3]?=some (.int .i64 0) by rw [hcs];rfl)
  rw [← hcs] at ko ⊢
  clear hcs
  generalize (n:Int) - (p:Int)=r at *
  replace hlt:=hide hlt
  replace ko:=hide ko
  obtain ⟨y0,z0⟩:=ro_cf ko.out 0 _ q0.out
  obtain ⟨y1,z1⟩:=ro_cf ko.out 1 _ q1.out
  obtain ⟨y2,z2⟩:=ro_cf ko.out 2 _ q2.out
  obtain ⟨y3,z3⟩:=ro_cf ko.out 3 _ q3.out
  go_enter Tryz.func35,Tryz.ntmps35
  go_wp2_with fail
  refine (C.out _).mono ?_
  rintro z w1 ⟨rfl,h1⟩
  have k:=hide (ko.out.below h1)
  have hB:=hide (But.of (b:=g) h1)
  clear C h1 ko
  clear y0 z0 y1 z1 y2 z2 y3 z3
  go_wp2
  go_end0
  exact ⟨rfl,k.out,hB.out⟩
theorem readFooter {w0:World} {A:Option Addr} {n c:Nat} {xs:List Int} (I:PIn w0 A n c xs) (g p:Nat) (s:Int) (h:Hd) (v:Int) (S S':BkS) (f:ByteArray) (w:World) (hg:w0.heap.size≤g) (hl:Below w0.heap.size w0 w) (hp:p≤n) (hp0:0<p) {ft:List Int} {q e a:Int} (hft:IsB ft) (hd:ftR xs p=(ft,q,e,a)) (ko:Ro w g (psA A n c p 0 0 s h v S S' f) 57) :
 Calls Tryz.prog 39 #[.pointer (some ⟨g,0,none⟩)] w fun z w'=>z=.returned (.tuple #[])∧Ro w' g (psA A n c q e a p h v S S' ((bS ft))) 57∧But g w w':=by
 have TK:=hide (fun W (hW:Below w0.heap.size w0 W)=>TakeF I p hp W hW hd)
 obtain ⟨ad,had,hrd⟩:=cut_ad I hp hp0
 have IX:=hide (fun W (hW:Below w0.heap.size w0 W) B d (hB:Rd W B 1 (bys [10]))=>by_.IndexV ad B (n - p) (c - p) d (xs.drop p) (nlAt xs p) W (hrd.below hW) (nl_ix I.b (by rw [I.len];exact hp)) hB)
 rw [← had] at IX
 have hpc:p≤c:=by have:=I.nc;omega
 have hcm:=I.cm
 clear had hrd
 obtain ⟨cs,hcs⟩:∃ zz,zz=psA A n c p 0 0 s h v S S' f:=⟨_,rfl⟩
 obtain ⟨cs1,hcs1⟩:∃ zz,zz=psA A n c p 0 0 p h v S S' f:=⟨_,rfl⟩
 obtain ⟨cs2,hcs2⟩:∃ zz,zz=psA A n c q e a p h v S S' f:=⟨_,rfl⟩
 obtain ⟨cs3,hcs3⟩:∃ zz,zz=psA A n c q e a p h v S S' ((bS ft)):=⟨_,rfl⟩
 have q1:=hide (show cs[1]?=some (.int .i64 p) by rw [hcs];rfl)
 have q4:=hide (show cs[4]?=some (.int .i64 s) by rw [hcs];rfl)
 have r0:=hide (show cs1[0]?=some (.slice A n c) by rw [hcs1];rfl)
 have r1:=hide (show cs1[1]?=some (.int .i64 p) by rw [hcs1];rfl)
 have r2:=hide (show cs1[2]?=some (.int .i64 0) by rw [hcs1];rfl)
 have r3:=hide (show cs1[3]?=some (.int .i64 0) by rw [hcs1];rfl)
 have r4:=hide (show cs1[4]?=some (.int .i64 p) by rw [hcs1];rfl)
 have t27:=hide (show cs2[27]?=some (.string f) by rw [hcs2];rfl)
 have N:=hide (show (cs.setIfInBounds 4 (.int .i64 p))=cs1 by rw [hcs,hcs1];unfold psA;simp only [List.setIfInBounds_toArray];rfl)
 have M:=hide (show ((((cs1.setIfInBounds 0 (.slice A n c)).setIfInBounds 1 (.int .i64 q)).setIfInBounds 2 (.int .i64 e)).setIfInBounds 3 (.int .i64 a))=cs2 by rw [hcs1,hcs2];unfold psA;simp only [List.setIfInBounds_toArray];rfl)
 have O:=hide (show (cs2.setIfInBounds 27 (.string (bS ft)))=cs3 by rw [hcs2,hcs3];unfold psA;simp only [List.setIfInBounds_toArray];rfl)
 rw [← hcs] at ko
 rw [← hcs3]
 clear hcs hcs1 hcs2 hcs3 hd
 generalize nlAt xs p=nv at *
 have k:=hide ko
 clear ko
 replace hl:=hide hl
 obtain ⟨y1,z1⟩:=ro_cf k.out 1 _ q1.out
 obtain ⟨y4,z4⟩:=ro_cf k.out 4 _ q4.out
 by_cases hcp0:c=p
 ·rw [if_pos hcp0] at IX
  have hcp:(c=p)=True:=eq_true hcp0
  replace hcp0:=hide hcp0
  go_enter Tryz.func39,Tryz.ntmps39
  go_upto_region 1 with fail
  clear y1 z1 y4 z4
  replace k:=hide (show Ro (w.setCell ⟨g,4,none⟩ (.int .i64 p)) g cs1 57 from by have:=ro_set k.out 4 (.int .i64 p);rwa [N.out] at this)
  have hB:=hide ((But.refl g w).set (o:=4) (.int .i64 p))
  replace hl:=hide (bl_set hl.out hg (o:=4) (.int .i64 p))
  generalize w.setCell ⟨g,4,none⟩ (.int .i64 p)=u at *
  replace k:=hide k.out.drew
  replace hB:=hide hB.out.drew
  replace hl:=hide (bl_drew hl.out)
  refine wp_region_held_drew (S:=fun w'=>Hid (Ro w' g cs1 57)) (by kernel_rfl) (hide k.out) (fun hHeld=>?_)
  generalize u.drew=u0 at *
  refine tkV 0 (some 12) (v:=?_) ?_ ?_
  rotate_left
  ·((intro w hSw;go_simp) <;> with_reducible rfl)
  try simp only [Act.put,sI1,sI2,sI3]
  refine tkV 1 (some 13) (v:=?_) ?_ ?_
  rotate_left
  ·((intro w hSw;go_simp) <;> with_reducible rfl)
  try simp only [Act.put,sI1,sI2,sI3]
  refine tkV 2 (some 14) (v:=?_) ?_ ?_
  rotate_left
  ·((intro w hSw;go_simp) <;> with_reducible rfl)
  try simp only [Act.put,sI1,sI2,sI3]
  refine tkV 3 (some 15) (v:=?_) ?_ ?_
  rotate_left
  ·((intro w hSw;go_simp) <;> with_reducible rfl)
  try simp only [Act.put,sI1,sI2,sI3]
  refine tkV 4 (some 16) (v:=?_) ?_ ?_
  rotate_left
  ·((intro w hSw;obtain ⟨y0,_⟩:=ro_cf hSw.out 0 _ r0.out;go_simp) <;> with_reducible rfl)
  try simp only [Act.put,sI1,sI2,sI3]
  refine tkV 5 (some 17) (v:=?_) ?_ ?_
  rotate_left
  ·((intro w hSw;go_simp) <;> with_reducible rfl)
  try simp only [Act.put,sI1,sI2,sI3]
  refine tkV 6 (some 18) (v:=?_) ?_ ?_
  rotate_left
  ·((intro w hSw;go_simp) <;> with_reducible rfl)
  try simp only [Act.put,sI1,sI2,sI3]
  refine tkV 7 (some 19) (v:=?_) ?_ ?_
  rotate_left
  ·((intro w hSw;go_simp) <;> with_reducible rfl)
  try simp only [Act.put,sI1,sI2,sI3]
  refine tkV 8 (some 20) (v:=?_) ?_ ?_
  rotate_left
  ·((intro w hSw;obtain ⟨y4,_⟩:=ro_cf hSw.out 4 _ r4.out;go_simp) <;> with_reducible rfl)
  try simp only [Act.put,sI1,sI2,sI3]
  refine tkV 9 (some 21) (v:=?_) ?_ ?_
  rotate_left
  ·((intro w hSw;go_simp) <;> with_reducible rfl)
  try simp only [Act.put,sI1,sI2,sI3]
  refine wpAnyH_ready (rs:=[10]) (by kernel_rfl) (by simp) ?_
  refine AllReadyH.cons rfl (fun K hK=>?_) (AllReadyH.nil)
  go_simp
  have h1:=bl_new u0 (.cells #[.int .u8 10] 5)
  have k1:=hide (k.out.below h1)
  clear h1
  refine hK.out _ _ (hide k1.out) (fun hHeld=>?_)
  clear hK K
  clear k1
  try simp only [Act.put,sI1,sI2,sI3]
  refine wpAnyH_ready (rs:=[11]) (by kernel_rfl) (by simp) ?_
  refine AllReadyH.cons rfl (fun K hK=>?_) (AllReadyH.nil)
  have kc:=Lib.run_convert_bytes_const (P:=Tryz.prog) u0 22 5 #[.int .u8 10] 1 1 Tryz.underlying22 Tryz.underlying5
  go_simp
  clear kc
  have gl:=hide (show g<(u0.alloc (.cells #[.int .u8 10] 5 (1,2))).heap.size from (k.out.alloc (.cells #[.int .u8 10] 5 (1,2))).lt)
  have rl:=hide (rd_lm u0 [.int .u8 10] 5 (1,2))
  replace k:=hide (k.out.alloc (.cells #[.int .u8 10] 5 (1,2)))
  replace hB:=hide (hB.out.alloc (.cells #[.int .u8 10] 5 (1,2)))
  replace hl:=hide (bl_alloc hl.out (.cells #[.int .u8 10] 5 (1,2)))
  refine hK.out _ _ (hide k.out) (fun hHeld=>?_)
  clear hK K
  dsimp only [List.toArray] at rl
  generalize u0.alloc (.cells #[.int .u8 10] 5 (1,2))=v1 at *
  generalize u0.heap.size=g1 at *
  try simp only [Act.put,sI1,sI2,sI3]
  refine wpAnyH_ready (rs:=[12]) (by kernel_rfl) (by simp) ?_
  refine AllReadyH.cons rfl (fun K hK=>?_) (AllReadyH.nil)
  go_simp
  refine (IX.out _ hl.out _ _ rl.out).mono ?_
  rintro z w1 ⟨rfl,rfl⟩
  clear IX rl
  refine hK.out _ _ (hide k.out) (fun hHeld=>?_)
  clear hK K
  try simp only [Act.put,sI1,sI2,sI3]
  refine tkV 13 (some 2) (v:=?_) ?_ ?_
  rotate_left
  ·((intro w hSw;go_simp) <;> with_reducible rfl)
  try simp only [Act.put,sI1,sI2,sI3]
  refine wpAnyH_done (by kernel_rfl) ?_ _
  clear hHeld
  go_upto_region 3 with fail
  obtain ⟨y0,z0⟩:=ro_cf k.out 0 _ r0.out
  obtain ⟨y1,z1⟩:=ro_cf k.out 1 _ r1.out
  obtain ⟨y2,z2⟩:=ro_cf k.out 2 _ r2.out
  obtain ⟨y3,z3⟩:=ro_cf k.out 3 _ r3.out
  go_wp2_with fail
  refine (TK.out _ hl.out).mono ?_
  rintro z w2 ⟨A2,c2,rfl,ow,h1⟩
  replace k:=hide (k.out.below h1)
  replace hB:=hide (hB.out.next h1)
  replace ow:=hide ow
  clear TK h1
  clear y0 z0 y1 z1 y2 z2 y3 z3
  obtain ⟨y0,z0⟩:=ro_cf k.out 0 _ r0.out
  obtain ⟨y1,z1⟩:=ro_cf k.out 1 _ r1.out
  obtain ⟨y2,z2⟩:=ro_cf k.out 2 _ r2.out
  obtain ⟨y3,z3⟩:=ro_cf k.out 3 _ r3.out
  go_upto_region 4 with fail
  clear y0 z0 y1 z1 y2 z2 y3 z3
  have glt:=hide (show g<v1.heap.size from gl.out)
  replace ow:=hide (ow_but ow.out glt.out (((((But.refl g w2).set (o:=0) (.slice A n c)).set (o:=1) (.int .i64 q)).set (o:=2) (.int .i64 e)).set (o:=3) (.int .i64 a)))
  replace k:=hide (show Ro (((((w2.setCell ⟨g,0,none⟩ (.slice A n c)).setCell ⟨g,1,none⟩ (.int .i64 q)).setCell ⟨g,2,none⟩ (.int .i64 e)).setCell ⟨g,3,none⟩ (.int .i64 a))) g cs2 57 from by have:=(ro_set (ro_set (ro_set (ro_set k.out 0 (.slice A n c)) 1 (.int .i64 q)) 2 (.int .i64 e)) 3 (.int .i64 a));rwa [M.out] at this)
  replace hB:=hide ((((hB.out.set (o:=0) (.slice A n c)).set (o:=1) (.int .i64 q)).set (o:=2) (.int .i64 e)).set (o:=3) (.int .i64 a))
  generalize ((((w2.setCell ⟨g,0,none⟩ (.slice A n c)).setCell ⟨g,1,none⟩ (.int .i64 q)).setCell ⟨g,2,none⟩ (.int .i64 e)).setCell ⟨g,3,none⟩ (.int .i64 a))=w3 at *
  have kv:=convO ow.out (hft)
  obtain ⟨y27,z27⟩:=ro_cf k.out 27 _ t27.out
  go_wp2_with fail
  go_end0
  exact ⟨rfl,by have:=ro_set k.out 27 (.string (bS ft));rwa [O.out] at this,hB.out.set _⟩
 ·rw [if_neg hcp0] at IX
  have hcp:(c=p)=False:=eq_false hcp0
  replace hcp0:=hide hcp0
  go_enter Tryz.func39,Tryz.ntmps39
  go_upto_region 1 with fail
  clear y1 z1 y4 z4
  replace k:=hide (show Ro (w.setCell ⟨g,4,none⟩ (.int .i64 p)) g cs1 57 from by have:=ro_set k.out 4 (.int .i64 p);rwa [N.out] at this)
  have hB:=hide ((But.refl g w).set (o:=4) (.int .i64 p))
  replace hl:=hide (bl_set hl.out hg (o:=4) (.int .i64 p))
  generalize w.setCell ⟨g,4,none⟩ (.int .i64 p)=u at *
  replace k:=hide k.out.drew
  replace hB:=hide hB.out.drew
  replace hl:=hide (bl_drew hl.out)
  refine wp_region_held_drew (S:=fun w'=>Hid (Ro w' g cs1 57)) (by kernel_rfl) (hide k.out) (fun hHeld=>?_)
  generalize u.drew=u0 at *
  refine tkV 0 (some 12) (v:=?_) ?_ ?_
  rotate_left
  ·((intro w hSw;go_simp) <;> with_reducible rfl)
  try simp only [Act.put,sI1,sI2,sI3]
  refine tkV 1 (some 13) (v:=?_) ?_ ?_
  rotate_left
  ·((intro w hSw;go_simp) <;> with_reducible rfl)
  try simp only [Act.put,sI1,sI2,sI3]
  refine tkV 2 (some 14) (v:=?_) ?_ ?_
  rotate_left
  ·((intro w hSw;go_simp) <;> with_reducible rfl)
  try simp only [Act.put,sI1,sI2,sI3]
  refine tkV 3 (some 15) (v:=?_) ?_ ?_
  rotate_left
  ·((intro w hSw;go_simp) <;> with_reducible rfl)
  try simp only [Act.put,sI1,sI2,sI3]
  refine tkV 4 (some 16) (v:=?_) ?_ ?_
  rotate_left
  ·((intro w hSw;obtain ⟨y0,_⟩:=ro_cf hSw.out 0 _ r0.out;go_simp) <;> with_reducible rfl)
  try simp only [Act.put,sI1,sI2,sI3]
  refine tkV 5 (some 17) (v:=?_) ?_ ?_
  rotate_left
  ·((intro w hSw;go_simp) <;> with_reducible rfl)
  try simp only [Act.put,sI1,sI2,sI3]
  refine tkV 6 (some 18) (v:=?_) ?_ ?_
  rotate_left
  ·((intro w hSw;go_simp) <;> with_reducible rfl)
  try simp only [Act.put,sI1,sI2,sI3]
  refine tkV 7 (some 19) (v:=?_) ?_ ?_
  rotate_left
  ·((intro w hSw;go_simp) <;> with_reducible rfl)
  try simp only [Act.put,sI1,sI2,sI3]
  refine tkV 8 (some 20) (v:=?_) ?_ ?_
  rotate_left
  ·((intro w hSw;obtain ⟨y4,_⟩:=ro_cf hSw.out 4 _ r4.out;go_simp) <;> with_reducible rfl)
  try simp only [Act.put,sI1,sI2,sI3]
  refine tkV 9 (some 21) (v:=?_) ?_ ?_
  rotate_left
  ·((intro w hSw;go_simp) <;> with_reducible rfl)
  try simp only [Act.put,sI1,sI2,sI3]
  refine wpAnyH_ready (rs:=[10]) (by kernel_rfl) (by simp) ?_
  refine AllReadyH.cons rfl (fun K hK=>?_) (AllReadyH.nil)
  go_simp
  have h1:=bl_new u0 (.cells #[.int .u8 10] 5)
  have k1:=hide (k.out.below h1)
  clear h1
  refine hK.out _ _ (hide k1.out) (fun hHeld=>?_)
  clear hK K
  clear k1
  try simp only [Act.put,sI1,sI2,sI3]
  refine wpAnyH_ready (rs:=[11]) (by kernel_rfl) (by simp) ?_
  refine AllReadyH.cons rfl (fun K hK=>?_) (AllReadyH.nil)
  have kc:=Lib.run_convert_bytes_const (P:=Tryz.prog) u0 22 5 #[.int .u8 10] 1 1 Tryz.underlying22 Tryz.underlying5
  go_simp
  clear kc
  have gl:=hide (show g<(u0.alloc (.cells #[.int .u8 10] 5 (1,2))).heap.size from (k.out.alloc (.cells #[.int .u8 10] 5 (1,2))).lt)
  have rl:=hide (rd_lm u0 [.int .u8 10] 5 (1,2))
  replace k:=hide (k.out.alloc (.cells #[.int .u8 10] 5 (1,2)))
  replace hB:=hide (hB.out.alloc (.cells #[.int .u8 10] 5 (1,2)))
  replace hl:=hide (bl_alloc hl.out (.cells #[.int .u8 10] 5 (1,2)))
  refine hK.out _ _ (hide k.out) (fun hHeld=>?_)
  clear hK K
  dsimp only [List.toArray] at rl
  generalize u0.alloc (.cells #[.int .u8 10] 5 (1,2))=v1 at *
  generalize u0.heap.size=g1 at *
  try simp only [Act.put,sI1,sI2,sI3]
  refine wpAnyH_ready (rs:=[12]) (by kernel_rfl) (by simp) ?_
  refine AllReadyH.cons rfl (fun K hK=>?_) (AllReadyH.nil)
  go_simp
  refine (IX.out _ hl.out _ _ rl.out).mono ?_
  rintro z w1 ⟨rfl,rfl⟩
  clear IX rl
  refine hK.out _ _ (hide k.out) (fun hHeld=>?_)
  clear hK K
  try simp only [Act.put,sI1,sI2,sI3]
  refine tkV 13 (some 2) (v:=?_) ?_ ?_
  rotate_left
  ·((intro w hSw;go_simp) <;> with_reducible rfl)
  try simp only [Act.put,sI1,sI2,sI3]
  refine wpAnyH_done (by kernel_rfl) ?_ _
  clear hHeld
  go_upto_region 3 with fail
  obtain ⟨y0,z0⟩:=ro_cf k.out 0 _ r0.out
  obtain ⟨y1,z1⟩:=ro_cf k.out 1 _ r1.out
  obtain ⟨y2,z2⟩:=ro_cf k.out 2 _ r2.out
  obtain ⟨y3,z3⟩:=ro_cf k.out 3 _ r3.out
  go_wp2_with fail
  refine (TK.out _ hl.out).mono ?_
  rintro z w2 ⟨A2,c2,rfl,ow,h1⟩
  replace k:=hide (k.out.below h1)
  replace hB:=hide (hB.out.next h1)
  replace ow:=hide ow
  clear TK h1
  clear y0 z0 y1 z1 y2 z2 y3 z3
  obtain ⟨y0,z0⟩:=ro_cf k.out 0 _ r0.out
  obtain ⟨y1,z1⟩:=ro_cf k.out 1 _ r1.out
  obtain ⟨y2,z2⟩:=ro_cf k.out 2 _ r2.out
  obtain ⟨y3,z3⟩:=ro_cf k.out 3 _ r3.out
  go_upto_region 4 with fail
  clear y0 z0 y1 z1 y2 z2 y3 z3
  have glt:=hide (show g<v1.heap.size from gl.out)
  replace ow:=hide (ow_but ow.out glt.out (((((But.refl g w2).set (o:=0) (.slice A n c)).set (o:=1) (.int .i64 q)).set (o:=2) (.int .i64 e)).set (o:=3) (.int .i64 a)))
  replace k:=hide (show Ro (((((w2.setCell ⟨g,0,none⟩ (.slice A n c)).setCell ⟨g,1,none⟩ (.int .i64 q)).setCell ⟨g,2,none⟩ (.int .i64 e)).setCell ⟨g,3,none⟩ (.int .i64 a))) g cs2 57 from by have:=(ro_set (ro_set (ro_set (ro_set k.out 0 (.slice A n c)) 1 (.int .i64 q)) 2 (.int .i64 e)) 3 (.int .i64 a));rwa [M.out] at this)
  replace hB:=hide ((((hB.out.set (o:=0) (.slice A n c)).set (o:=1) (.int .i64 q)).set (o:=2) (.int .i64 e)).set (o:=3) (.int .i64 a))
  generalize ((((w2.setCell ⟨g,0,none⟩ (.slice A n c)).setCell ⟨g,1,none⟩ (.int .i64 q)).setCell ⟨g,2,none⟩ (.int .i64 e)).setCell ⟨g,3,none⟩ (.int .i64 a))=w3 at *
  have kv:=convO ow.out (hft)
  obtain ⟨y27,z27⟩:=ro_cf k.out 27 _ t27.out
  go_wp2_with fail
  go_end0
  exact ⟨rfl,by have:=ro_set k.out 27 (.string (bS ft));rwa [O.out] at this,hB.out.set _⟩
end zf_
theorem dec_z {l:List Int} {p k:Nat} {a b c d x y:Nat} {Q:Bk} {P T at_:Int} (hb:decB k a b c d x y l p at_=(Q,P,0,T)):T=0:=by
 unfold decB at hb
 split at hb
 ·simp only [Prod.mk.injEq] at hb
  exact absurd hb.2.2.1 (by decide)
 split at hb
 ·simp only [Prod.mk.injEq] at hb
  exact hb.2.2.2.symm
 ·simp only [Prod.mk.injEq] at hb
  exact absurd hb.2.2.1 (by decide)
section
variable {w0:World} {A:Option Addr} {n c:Nat} {xs:List Int}
def Er (xs:List Int) (g:Nat) (W:World):Prop:=∃ (e a:Int) (cs:Array Value),e≠0∧parF xs=.error (e,a)∧Ro W g cs 57∧cs[2]?=some (.int .i64 e)∧cs[3]?=some (.int .i64 a)∧∃ v:Int,cs[12]?=some (.int .i64 v)
def G0 (A:Option Addr) (n c:Nat) (g:Nat) (W:World):Prop:=Ro W g (psA A n c ((0:Nat):Int) 0 0 0 Hd0 0 BkS.zero BkS.zero ⟨#[]⟩) 57
def G1 (A:Option Addr) (n c:Nat) (xs:List Int) (g:Nat) (W:World):Prop:=∃ (h:Hd),decH xs 0=(h,44,0,0)∧44≤n∧h.ok∧Ro W g (psA A n c ((44:Nat):Int) 0 0 ((0:Nat):Int) h h.ver BkS.zero BkS.zero ⟨#[]⟩) 57
structure Part1 (xs:List Int) (v:Int) (Q:Bk) (q:Nat):Prop where
 r:partF xs 0 0 4=(v,Q,(q:Int),0,0)
 v0:1≤v
 v1:v≤4
 ql:q≤xs.length
 le:Q.le' xs.length
def G2 (A:Option Addr) (n c:Nat) (xs:List Int) (g:Nat) (v:Int) (W:World):Prop:=∃ (h:Hd) (s:Int) (Q:Bk) (S:BkS) (q:Nat),Part1 xs v Q q∧Ro W g (psA A n c (q:Int) 0 0 s h v S BkS.zero ⟨#[]⟩) 57∧OwBk W (g+1) S Q
def G3 (A:Option Addr) (n c:Nat) (xs:List Int) (g:Nat) (v:Int) (W:World):Prop:=∃ (h:Hd) (Q:Bk) (S:BkS) (q:Nat),Part1 xs v Q q∧decH xs q=(h,(q:Int)+44,0,0)∧q+44≤n∧h.ok∧h.ver=v∧Ro W g (psA A n c ((q+44:Nat):Int) 0 0 (q:Int) h v S BkS.zero ⟨#[]⟩) 57∧OwBk W (g+1) S Q
structure Part2 (xs:List Int) (v:Int) (Q Q':Bk) (q p:Nat):Prop where
 o:Part1 xs v Q q
 r:partF xs q v 8=(v,Q',(p:Int),0,0)
 pl:p≤xs.length
 le:Q'.le' xs.length
 B:BOk Q' (decide (v=4)) 8
 p0:0<p
def G4 (A:Option Addr) (n c:Nat) (xs:List Int) (g:Nat) (v:Int) (W:World):Prop:=∃ (h:Hd) (s:Int) (Q Q':Bk) (S S':BkS) (q p:Nat),Part2 xs v Q Q' q p∧Ro W g (psA A n c (p:Int) 0 0 s h v S S' ⟨#[]⟩) 57∧OwBk W (g+1) S Q∧OwBk W (g+1) S' Q'
def G5 (A:Option Addr) (n c:Nat) (xs:List Int) (g:Nat) (v:Int) (W:World):Prop:=∃ (h:Hd) (s:Int) (Q Q':Bk) (S S':BkS) (q p:Nat),Part2 xs v Q Q' q p∧p<n∧xs[p]?.getD 0=10∧Ro W g (psA A n c ((p+1:Nat):Int) 0 0 s h v S S' ⟨#[]⟩) 57∧OwBk W (g+1) S Q∧OwBk W (g+1) S' Q'
def G6 (ok:Bool) (A:Option Addr) (n c:Nat) (xs:List Int) (g:Nat) (v:Int) (W:World):Prop:=∃ (h:Hd) (Q Q':Bk) (S S':BkS) (q p:Nat),Part2 xs v Q Q' q p∧p<n∧xs[p]?.getD 0=10∧p+1+(ftL xs (p+1)).length≠xs.length∧(ok=true→(vF (u8s (ftL xs (p+1))) v Q').1=0)∧Ro W g (psA A n c ((p+1+(ftL xs (p+1)).length:Nat):Int) 0 0 ((p+1:Nat):Int) h v S S' (bS (ftL xs (p+1)))) 57∧OwBk W (g+1) S Q∧OwBk W (g+1) S' Q'
def G8 (A:Option Addr) (n c:Nat) (xs:List Int) (g:Nat) (v:Int) (W:World):Prop:=∃ (h:Hd) (s:Int) (Q Q':Bk) (S S':BkS) (q p:Nat),Part2 xs v Q Q' q p∧p<n∧xs[p]?.getD 0=10∧p+1+(ftL xs (p+1)).length≠xs.length∧(vF (u8s (ftL xs (p+1))) v Q').1=0∧Ro W g (psA A n c ((p+1+(ftL xs (p+1)).length+1:Nat):Int) 0 0 s h v S S' (bS (ftL xs (p+1)))) 57∧OwBk W (g+1) S Q∧OwBk W (g+1) S' Q'
def Gf (A:Option Addr) (n c:Nat) (xs:List Int) (g:Nat) (W:World):Prop:=∃ (h:Hd) (p s v:Int) (Q Q':Bk) (S S':BkS) (f:ByteArray),parF xs=.ok (v,Q,Q',fB (byt f))∧f.size≤n∧Ro W g (psA A n c p 0 0 s h v S S' f) 57∧OwBk W (g+1) S Q∧OwBk W (g+1) S' Q'
theorem er_of {W:World} {g:Nat} {p e a s:Int} {h:Hd} {v:Int} {S S':BkS} {f:ByteArray} (he:e≠0) (hp:parF xs=.error (e,a)) (k:Ro W g (psA A n c p e a s h v S S' f) 57):Er xs g W:=⟨e,a,_,he,hp,k,rfl,rfl,v,rfl⟩
theorem Er.below {W W':World} {g:Nat} (h:Er xs g W) (hb:Below W.heap.size W W'):Er xs g W':=by
 obtain ⟨e,a,cs,h1,h2,k,h3⟩:=h
 exact ⟨e,a,cs,h1,h2,k.below hb,h3⟩
theorem st1 (I:PIn w0 A n c xs) (g:Nat) (w:World) (hg:w0.heap.size≤g) (hl:Below w0.heap.size w0 w) (h:G0 A n c g w) :
 Calls Tryz.prog 20 #[.pointer (some ⟨g,0,none⟩)] w fun z w'=>z=.returned (.tuple #[])∧(G1 A n c xs g w'∨Er xs g w')∧But g w w':=by
 rcases hd:decH xs 0 with ⟨h',q,e,a⟩
 have hx:=dec_cases I.b (Nat.zero_le _) hd
 refine (zf_.firstHeader I g 0 0 Hd0 0 _ _ _ w hg hl (Nat.zero_le _) hd h).mono ?_
 rintro z w' ⟨rfl,k,hB⟩
 refine ⟨rfl,?_,hB⟩
 rcases hx with ⟨rfl,rfl,rfl,h44,_,hok,_⟩ | ⟨h1,h2,_⟩
 ·refine .inl ⟨h',by rw [hd];rfl,by have:=I.len;omega,hok,k⟩
 ·exact .inr (er_of (by omega) (pa_1 (pf_hd hd (by omega)) (by omega)) k)
theorem st2 (I:PIn w0 A n c xs) (g:Nat) (w:World) (hg:w0.heap.size≤g) (hl:Below w0.heap.size w0 w) (h:G1 A n c xs g w) :
 Calls Tryz.prog 21 #[.pointer (some ⟨g,0,none⟩)] w fun z w'=>z=.returned (.tuple #[])∧((∃ v,G2 A n c xs g v w')∨Er xs g w')∧But g w w':=by
 obtain ⟨h,hd,h44,hok,k⟩:=h
 have gw:=k.lt
 rcases hb:decB 4 h.ut.toNat h.sd.toNat h.lp.toNat h.tm.toNat h.ty.toNat h.ch.toNat xs 44 ((0:Nat):Int) with ⟨Q,P,E,T⟩
 refine (zf_.firstBlock I g 44 ((0:Nat):Int) h h.ver _ _ _ w hg hl h44 hok hok.v0 hok.v1 hb k).mono ?_
 rintro z w' ⟨S1,rfl,k,o,hB⟩
 refine ⟨rfl,?_,hB⟩
 by_cases hE:E=0
 ·subst hE
  have hT:=dec_z hb
  subst hT
  by_cases hv:vB Q (decide (h.ver=4)) 4=0
  ·obtain ⟨hle,hQ,m,rfl,hm,_⟩:=dec_small (p:=0) (n:=xs.length) (.inl rfl) I.b (Nat.le_refl _) hb
   rw [hv] at k
   exact .inl ⟨h.ver,h,_,Q,S1,m,⟨pf_ok hd (.inl rfl) hb hv,hok.v0,hok.v1,hm,hle⟩,k,o.mono (by omega)⟩
  ·rw [show fe 0 (vB Q (decide (h.ver=4)) 4)=vB Q (decide (h.ver=4)) 4 from if_neg (fun h=>h rfl),show fa 0 0 (vB Q (decide (h.ver=4)) 4) ((0:Nat):Int)=((0:Nat):Int) from if_neg (fun h=>by rcases h with h | h;exact h rfl;exact hv h)] at k
   exact .inr (er_of hv (pa_1 (pf_bad hd (.inl rfl) hb hv) hv) k)
 ·rw [show fe E (vB Q (decide (h.ver=4)) 4)=E from if_pos hE,show fa E T (vB Q (decide (h.ver=4)) 4) ((0:Nat):Int)=T from if_pos (.inl hE)] at k
  exact .inr (er_of hE (pa_1 (pf_blk hd (.inl rfl) hb hE) hE) k)
theorem st3 (I:PIn w0 A n c xs) (g:Nat) (v:Int) (hv1:v≠1) (w:World) (hg:w0.heap.size≤g) (hl:Below w0.heap.size w0 w) (h:G2 A n c xs g v w) :
 Calls Tryz.prog 36 #[.pointer (some ⟨g,0,none⟩)] w fun z w'=>z=.returned (.tuple #[])∧(G3 A n c xs g v w'∨Er xs g w')∧But g w w':=by
 obtain ⟨h,s,Q,S,q,P1,k,o⟩:=h
 have hq:=P1.ql
 have hln:=I.len
 rcases hd:decH xs q with ⟨h',q',e,a⟩
 have hx:=dec_cases I.b hq hd
 refine (zf_.secondHeader I g q s h v _ _ _ w hg hl (by omega) hd k).mono ?_
 rintro z w' ⟨rfl,k,hB⟩
 refine ⟨rfl,?_,hB⟩
 rcases hx with ⟨rfl,rfl,rfl,h44,_,hok,_⟩ | ⟨h1,h2,_⟩
 ·by_cases hv:h'.ver=v
  ·rw [if_pos hv,show fe 0 0=0 from rfl,show fa 0 0 0 ((q:Int)+4)=0 from rfl] at k
   exact .inl ⟨h',Q,S,q,P1,hd,by omega,hok,hv,k,o.but (Nat.lt_succ_self g) hB⟩
  ·rw [if_neg hv,show fe 0 4=4 from rfl,show fa 0 0 4 ((q:Int)+4)=(q:Int)+4 from rfl] at k
   refine .inr (er_of (by decide) (pa_4 P1.r hv1 (v':=0) (B:=Bk.zero) (p:=(q:Int)+44) (by rw [Int.toNat_natCast];exact pf_ver hd (by have:=P1.v0;omega) hv) (by decide)) k)
 ·have he:e≠0:=by omega
  rw [show fe e (if h'.ver=v then 0 else 4)=e from if_pos he,show fa e a (if h'.ver=v then 0 else 4) ((q:Int)+4)=a from if_pos (.inl he)] at k
  exact .inr (er_of he (pa_4 P1.r hv1 (v':=0) (B:=Bk.zero) (p:=q') (by rw [Int.toNat_natCast];exact pf_hd hd he) he) k)
theorem st4 (I:PIn w0 A n c xs) (g:Nat) (v:Int) (hv1:v≠1) (w:World) (hg:w0.heap.size≤g) (hl:Below w0.heap.size w0 w) (h:G3 A n c xs g v w) :
 Calls Tryz.prog 37 #[.pointer (some ⟨g,0,none⟩)] w fun z w'=>z=.returned (.tuple #[])∧(G4 A n c xs g v w'∨Er xs g w')∧But g w w':=by
 obtain ⟨h,Q,S,q,P1,hd,h44,hok,hver,k,o⟩:=h
 have gw:=k.lt
 have hln:=I.len
 rcases hb:decB 8 h.ut.toNat h.sd.toNat h.lp.toNat h.tm.toNat h.ty.toNat h.ch.toNat xs (q+44) (q:Int) with ⟨Q',P,E,T⟩
 have hb':decB 8 h.ut.toNat h.sd.toNat h.lp.toNat h.tm.toNat h.ty.toNat h.ch.toNat xs ((q:Int)+44).toNat (q:Int)=(Q',P,E,T):=by rw [show ((q:Int)+44).toNat=q+44 by omega];exact hb
 refine (zf_.secondBlock I g (q+44) (q:Int) h v _ _ _ w hg hl h44 hok P1.v0 P1.v1 hb k).mono ?_
 rintro z w' ⟨S1,rfl,k,o',hB⟩
 refine ⟨rfl,?_,hB⟩
 have hvr:(v=0∨h.ver=v):=.inr hver
 by_cases hE:E=0
 ·subst hE
  have hT:=dec_z hb
  subst hT
  by_cases hv:vB Q' (decide (v=4)) 8=0
  ·obtain ⟨hle,hQ,m,rfl,hm,hm2⟩:=dec_small (p:=0) (n:=xs.length) (.inr rfl) I.b (Nat.le_refl _) hb
   rw [hv] at k
   have r:=pf_ok hd hvr hb' (by rw [hver];exact hv)
   rw [hver] at r
   exact .inl ⟨h,_,Q,Q',S,S1,q,m,⟨P1,r,hm,hle,(vB_iff _ _ _).1 hv,by omega⟩,k,o.but (Nat.lt_succ_self g) hB,o'.mono (by omega)⟩
  ·rw [show fe 0 (vB Q' (decide (v=4)) 8)=vB Q' (decide (v=4)) 8 from if_neg (fun h=>h rfl),show fa 0 0 (vB Q' (decide (v=4)) 8) (q:Int)=(q:Int) from if_neg (fun h=>by rcases h with h | h;exact h rfl;exact hv h)] at k
   have r:=pf_bad hd hvr hb' (by rw [hver];exact hv)
   rw [hver] at r
   exact .inr (er_of hv (pa_4 P1.r hv1 (by rw [Int.toNat_natCast];exact r) hv) k)
 ·rw [show fe E (vB Q' (decide (v=4)) 8)=E from if_pos hE,show fa E T (vB Q' (decide (v=4)) 8) (q:Int)=T from if_pos (.inl hE)] at k
  exact .inr (er_of hE (pa_4 P1.r hv1 (by rw [Int.toNat_natCast];exact pf_blk hd hvr hb' hE) hE) k)
theorem Part2.foot {v:Int} {Q Q':Bk} {q p:Nat} (h:Part2 xs v Q Q' q p) (hv1:v≠1):parF xs=footF xs v Q Q' p:=by
 have:=pa_5 h.o.r hv1 (by rw [Int.toNat_natCast];exact h.r)
 rwa [Int.toNat_natCast] at this
theorem st5 (I:PIn w0 A n c xs) (g:Nat) (v:Int) (hv1:v≠1) (w:World) (hg:w0.heap.size≤g) (hl:Below w0.heap.size w0 w) (h:G4 A n c xs g v w) :
 Calls Tryz.prog 38 #[.pointer (some ⟨g,0,none⟩)] w fun z w'=>z=.returned (.tuple #[])∧(G5 A n c xs g v w'∨Er xs g w')∧But g w w':=by
 obtain ⟨h,s,Q,Q',S,S',q,p,P2,k,o,o'⟩:=h
 have hln:=I.len
 have hp:=P2.pl
 rcases hd:nlR xs p with ⟨q1,e,a⟩
 refine (zf_.readNewline I g p s h v _ _ _ w hg hl (by omega) hd k).mono ?_
 rintro z w' ⟨rfl,k,hB⟩
 refine ⟨rfl,?_,hB⟩
 unfold nlR at hd
 split at hd
 ·rename_i hx
  simp only [Prod.mk.injEq] at hd
  obtain ⟨rfl,rfl,rfl⟩:=hd
  exact .inr (er_of (by decide) ((P2.foot hv1).trans (pt_1 hx)) k)
 ·rename_i hx
  split at hd
  ·rename_i h10
   simp only [Prod.mk.injEq] at hd
   obtain ⟨rfl,rfl,rfl⟩:=hd
   exact .inl ⟨h,s,Q,Q',S,S',q,p,P2,by omega,h10,k,o.but (Nat.lt_succ_self g) hB,o'.but (Nat.lt_succ_self g) hB⟩
  ·rename_i h10
   simp only [Prod.mk.injEq] at hd
   obtain ⟨rfl,rfl,rfl⟩:=hd
   exact .inr (er_of (by decide) ((P2.foot hv1).trans (pt_2 (by omega) h10)) k)
theorem ft_isB {l:List Int} (h:Bytes l) (n:Nat):IsB (ftL l n):=fun x hx=>h.mem x (List.mem_of_mem_drop ((List.takeWhile_sublist (fun x:Int=>x != 10)).subset hx))
theorem st6 (I:PIn w0 A n c xs) (g:Nat) (v:Int) (hv1:v≠1) (w:World) (hg:w0.heap.size≤g) (hl:Below w0.heap.size w0 w) (h:G5 A n c xs g v w) :
 Calls Tryz.prog 39 #[.pointer (some ⟨g,0,none⟩)] w fun z w'=>z=.returned (.tuple #[])∧(G6 false A n c xs g v w'∨Er xs g w')∧But g w w':=by
 obtain ⟨h,s,Q,Q',S,S',q,p,P2,hpn,h10,k,o,o'⟩:=h
 have hln:=I.len
 rcases hd:ftR xs (p+1) with ⟨ft,q1,e,a⟩
 have hft:IsB ft:=by
  unfold ftR at hd
  split at hd
  ·simp only [Prod.mk.injEq] at hd
   obtain ⟨rfl,_⟩:=hd
   intro x hx
   cases hx
  ·simp only [Prod.mk.injEq] at hd
   obtain ⟨rfl,_⟩:=hd
   exact ft_isB I.b _
 refine (zf_.readFooter I g (p+1) s h v _ _ _ w hg hl (by omega) (by omega) hft hd k).mono ?_
 rintro z w' ⟨rfl,k,hB⟩
 refine ⟨rfl,?_,hB⟩
 unfold ftR at hd
 split at hd
 ·rename_i hx
  simp only [Prod.mk.injEq] at hd
  obtain ⟨rfl,rfl,rfl,rfl⟩:=hd
  exact .inr (er_of (by decide) ((P2.foot hv1).trans (pt_3 (by omega) h10 hx)) k)
 ·rename_i hx
  simp only [Prod.mk.injEq] at hd
  obtain ⟨rfl,rfl,rfl,rfl⟩:=hd
  exact .inl ⟨h,Q,Q',S,S',q,p,P2,hpn,h10,hx,(fun h=>(by cases h)),k,o.but (Nat.lt_succ_self g) hB,o'.but (Nat.lt_succ_self g) hB⟩
theorem bS_u8s (l:List Int):byt (bS l)=u8s l:=by unfold bS u8s;exact byt_mk _
theorem st7 (I:PIn w0 A n c xs) (g:Nat) (v:Int) (hv1:v≠1) (w:World) (hg:w0.heap.size≤g) (hl:Below w0.heap.size w0 w) (h:G6 false A n c xs g v w) :
 Calls Tryz.prog 40 #[.pointer (some ⟨g,0,none⟩)] w fun z w'=>z=.returned (.tuple #[])∧(G6 true A n c xs g v w'∨Er xs g w')∧But g w w':=by
 obtain ⟨h,Q,Q',S,S',q,p,P2,hpn,h10,hx,_,k,o,o'⟩:=h
 have hln:=I.len
 have hsm:=I.sm
 have hle:=ftL_le xs (p+1)
 refine (zf_.checkFooter I g _ (p+1) h v S S' (bS (ftL xs (p+1))) Q' w hg hl (by omega) o'.is (le_small o'.is (le_up P2.le (by omega))) (by rw [← len_byt,bS_u8s];unfold u8s;rw [List.length_map];omega) (fun _=>P2.B) k).mono ?_
 rintro z w' ⟨rfl,k,hB⟩
 refine ⟨rfl,?_,hB⟩
 rw [bS_u8s] at k
 by_cases h0:(vF (u8s (ftL xs (p+1))) v Q').1=0
 ·rw [h0,show fa 0 0 0 (((p+1:Nat):Int)+(vF (u8s (ftL xs (p+1))) v Q').2)=0 from if_pos (.inr rfl)] at k
  exact .inl ⟨h,Q,Q',S,S',q,p,P2,hpn,h10,hx,fun _=>h0,k,o.but (Nat.lt_succ_self g) hB,o'.but (Nat.lt_succ_self g) hB⟩
 ·rw [show fa 0 0 (vF (u8s (ftL xs (p+1))) v Q').1 (((p+1:Nat):Int)+(vF (u8s (ftL xs (p+1))) v Q').2)=(p:Int)+1+(vF (u8s (ftL xs (p+1))) v Q').2 from by unfold fa;rw [if_neg (fun h=>by rcases h with h | h;exact h rfl;exact h0 h)];omega] at k
  exact .inr (er_of h0 ((P2.foot hv1).trans (pt_4 (by omega) h10 hx h0)) k)
theorem st8 (I:PIn w0 A n c xs) (g:Nat) (v:Int) (hv1:v≠1) (w:World) (hg:w0.heap.size≤g) (hl:Below w0.heap.size w0 w) (h:G6 true A n c xs g v w) :
 Calls Tryz.prog 38 #[.pointer (some ⟨g,0,none⟩)] w fun z w'=>z=.returned (.tuple #[])∧(G8 A n c xs g v w'∨Er xs g w')∧But g w w':=by
 obtain ⟨h,Q,Q',S,S',q,p,P2,hpn,h10,hx,h0,k,o,o'⟩:=h
 have hln:=I.len
 obtain ⟨hlt,hat⟩:=ftL_at (l:=xs) (n:=p+1) (by omega) hx
 refine (zf_.readNewline I g (p+1+(ftL xs (p+1)).length) _ h v _ _ _ w hg hl (by omega) (q:=((p+1+(ftL xs (p+1)).length+1:Nat):Int)) (e:=0) (a:=0) (by unfold nlR;rw [if_neg (by omega),hat];exact if_pos rfl) k).mono ?_
 rintro z w' ⟨rfl,k,hB⟩
 exact ⟨rfl,.inl ⟨h,_,Q,Q',S,S',q,p,P2,hpn,h10,hx,h0 rfl,k,o.but (Nat.lt_succ_self g) hB,o'.but (Nat.lt_succ_self g) hB⟩,hB⟩
theorem st9 (I:PIn w0 A n c xs) (g:Nat) (v:Int) (hv1:v≠1) (w:World) (hg:w0.heap.size≤g) (hl:Below w0.heap.size w0 w) (h:G8 A n c xs g v w) :
 Calls Tryz.prog 35 #[.pointer (some ⟨g,0,none⟩)] w fun z w'=>z=.returned (.tuple #[])∧(Gf A n c xs g w'∨Er xs g w')∧But g w w':=by
 obtain ⟨h,s,Q,Q',S,S',q,p,P2,hpn,h10,hx,h0,k,o,o'⟩:=h
 have hln:=I.len
 obtain ⟨hlt,hat⟩:=ftL_at (l:=xs) (n:=p+1) (by omega) hx
 refine (zf_.readEnd I g (p+1+(ftL xs (p+1)).length+1) s h v _ _ _ w (by omega) k).mono ?_
 rintro z w' ⟨rfl,k,hB⟩
 refine ⟨rfl,?_,hB⟩
 by_cases hend:p+1+(ftL xs (p+1)).length+1<n
 ·rw [if_pos hend,if_pos hend] at k
  exact .inr (er_of (by decide) ((P2.foot hv1).trans (pt_5 (by omega) h10 hx h0 (by omega))) k)
 ·rw [if_neg hend,if_neg hend] at k
  refine .inl ⟨h,_,_,v,Q,Q',S,S',_,?_,?_,k,o.but (Nat.lt_succ_self g) hB,o'.but (Nat.lt_succ_self g) hB⟩
  ·rw [bS_u8s,fB_u8s (bytes_of_mem (ft_isB I.b (p+1)))]
   exact (P2.foot hv1).trans (pt_6 (by omega) h10 hx h0 (by omega))
  ·rw [← len_byt,bS_u8s];unfold u8s;rw [List.length_map];omega
theorem st10 (I:PIn w0 A n c xs) (g:Nat) (w:World) (h:G2 A n c xs g 1 w) :
 Calls Tryz.prog 35 #[.pointer (some ⟨g,0,none⟩)] w fun z w'=>z=.returned (.tuple #[])∧(Gf A n c xs g w'∨Er xs g w')∧But g w w':=by
 obtain ⟨h,s,Q,S,q,P1,k,o⟩:=h
 have hln:=I.len
 have hq:=P1.ql
 have gw:=k.lt
 refine (zf_.readEnd I g q s h 1 _ _ _ w (by omega) k).mono ?_
 rintro z w' ⟨rfl,k,hB⟩
 refine ⟨rfl,?_,hB⟩
 by_cases hend:q<n
 ·rw [if_pos hend,if_pos hend] at k
  exact .inr (er_of (by decide) (pa_2 P1.r (by omega)) k)
 ·rw [if_neg hend,if_neg hend] at k
  exact .inl ⟨h,_,_,1,Q,Bk.zero,S,BkS.zero,⟨#[]⟩,pa_3 P1.r (by omega),Nat.zero_le _,k,o.but (Nat.lt_succ_self g) hB,bl_.zero_ow (by have:=hB.size;omega)⟩
end
namespace zf_
theorem run (g gr k:Nat) (fs:List Value) (J:Nat→World→Prop) (E:World→Prop) (w:World) (hr:Rd w (some ⟨gr,0,none⟩) k fs) (hgr:gr≠g) (hk:k≤1000)
 (hJc:∀ i W,J i W→W.cell? ⟨g,2,none⟩=some (.int .i64 0)) (hEc:∀ W,E W→∃ e:Int,e≠0∧W.cell? ⟨g,2,none⟩=some (.int .i64 e))
 (hF:∀ i,i<k→∃ F,fs[i]?=some (.func (.func F) #[.pointer (some ⟨g,0,none⟩)] #[])∧(∀ args w,(callFunc F args).run Tryz.prog w=.ok (.enter F args) w)∧∀ W,But g w W→J i W→Calls Tryz.prog F #[.pointer (some ⟨g,0,none⟩)] W fun z W'=>z=.returned (.tuple #[])∧(J (i+1) W'∨E W')∧But g W W')
 (h0:J 0 w∨E w) :
 Calls Tryz.prog 19 #[.pointer (some ⟨g,0,none⟩),.slice (some ⟨gr,0,none⟩) k k] w fun z w'=>z=.returned (.tuple #[])∧(J k w'∨E w')∧But g w w':=by
 replace hF:=hide hF
 replace hr:=hide hr
 replace h0:=hide h0
 replace hJc:=hide hJc
 replace hEc:=hide hEc
 replace hgr:=hide hgr
 go_enter Tryz.func19,Tryz.ntmps19
 go_wp2_with fail
 go_loopw [8] (fun i wr=>∃ j:Nat,j≤k∧i=.int .i64 (j:Nat)∧Hid (J j wr∨E wr)∧Hid (But g w wr)) (fun i _=>k - (intOf i).toNat)
 case atStart=>exact ⟨0,by omega,rfl,h0,hide (But.refl g w)⟩
 case round =>
  obtain ⟨j,hj,rfl,ha,hw⟩:=hrel
  by_cases hlt:j<k
  ·obtain ⟨F,c1,E1,CC⟩:=hF.out j hlt
   have m1:=(rd_but hr.out hw.out hgr.out).flat0 c1
   replace E1:=hide E1
   replace CC:=hide CC
   clear c1
   rcases ha.out with hJ | hE
   ·have m2:=hJc.out _ _ hJ
    have hD:=hide (CC.out _ hw.out hJ)
    clear CC hJ ha
    go_wp2_with fail
    rw [E1.out,Oper.upon_enter]
    refine hD.out.mono ?_
    rintro e w2 ⟨rfl,h2,hB2⟩
    have hb2:=hide (hw.out.trans hB2)
    replace h2:=hide h2
    clear hD hB2 m1 m2
    go_wp2
    go_roundw
    case rel=>exact ⟨j+1,by omega,by go_num,h2,hb2⟩
    case measure=>simp [intOf];omega
   ·obtain ⟨e,he,m2⟩:=hEc.out _ hE
    have d1:(e != 0)=true:=by simpa using he
    have d2:decide (e=0)=false:=decide_eq_false he
    replace he:=hide he
    replace hE:=hide hE
    clear CC ha
    go_wp2
    exact bodyPost_ret (v:=.tuple #[]) (by simp [results,Tryz.results19,go_sem]) rfl ⟨rfl,.inr hE.out,hw.out⟩
  ·obtain rfl:j=k:=by omega
   go_wp2
   go_end0
   exact ⟨rfl,ha.out,hw.out⟩
end zf_
end Go.Proofs.YtpapfpcehlhgeaaGreatDoor
