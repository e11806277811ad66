/-
  Texts of mine in one file: VdB, EqR, Rng, Hp, Tz, CvRef, RdRef, Mapf, Rv. Their conditions stand in the theorems.
-/
import Derived.Test.YtpapfpcehlhgeaaGreatDoorE06
import Derived.Test.YtpapfpcehlhgeaaGreatDoorE02
import Derived.Test.YtpapfpcehlhgeaaGreatDoorE03
import Derived.WalkKit
import Derived.Deep.RegionHeld3
import Derived.Deep.DeepCutAuto
import Derived.Lib.Bytealg
import Derived.Lib.BufferWrite
import Derived.Lib.UnsafeStr
import Derived.Laws.MakeOwn
import Derived.Test.YtpapfpcehlhgeaaGreatDoorRows
import Derived.Test.YtpapfpcehlhgeaaGreatDoorE01
import Derived.Maps.OwnSet
namespace Go.Proofs.YtpapfpcehlhgeaaGreatDoor
set_option linter.unusedVariables false
set_option linter.unusedSimpArgs false
set_option maxRecDepth 100000
set_option maxHeartbeats 16000000
open Go.ChangeShapes Go.WideShapes Go.ChangeAt Go.RowKit
namespace vd_
theorem rule1 (S:BkS) (b:Bk) (g:Nat) (w:World) (h:IsBk w S b) (hs:S.small) (k:Ro w g (blA S) 28):Calls Tryz.prog 165 #[.pointer (some ⟨g,0,none⟩)] w fun e w'=>e=.returned (.int .i64 (rq (cntOk b) 6))∧Below w.heap.size w w':=by
 have C:=hide (show Calls Tryz.prog 166 #[.agg (blA S)] w fun e w'=>e=.returned (.int .i64 (rq (cntOk b) 6))∧Below w.heap.size w w' from by rw [show cntOk b=cntS S from by obtain ⟨l0,l1,l2,l3,_,l5,l6⟩:=h.lens;unfold cntOk cntS;rw [l0,l1,l2,l3,l5,l6]];exact checkCounts S w)
 have G:=gr_blk S
 replace k:=hide k
 clear h hs
 generalize blA S=cs at *
 generalize rq (cntOk b) 6=r at *
 go_enter Tryz.func165,Tryz.ntmps165
 go_wp2_with (refine load_row_g (by rfl) 28 _ rfl _ rfl _ _ _ k.out Tryz.underlying28 rfl G.1 ?_)
 refine C.out.mono ?_
 rintro e w1 ⟨rfl,h1⟩
 clear C k
 go_wp2
 go_ret
 exact ⟨rfl,h1⟩
theorem rule2 (S:BkS) (b:Bk) (g:Nat) (g2:Nat) (t:Nat) (w:World) (h:IsBk w S b) (hs:S.small) (k:Ro w g (blA S) 28) (k2:Ro w g2 #[.int .i64 t] 3) (ht:t=4∨t=8):Calls Tryz.prog 167 #[.pointer (some ⟨g,0,none⟩),.pointer (some ⟨g2,0,none⟩)] w fun e w'=>e=.returned (.int .i64 (rq (fT t b.ti && lfit t b.lp) 18))∧Below w.heap.size w w':=by
 have C:=hide (show Calls Tryz.prog 168 #[.agg (blA S),.int .i64 (t:Int)] w _ from checkTimes S b t w ht h hs)
 have G:=gr_blk S
 replace k:=hide k
 obtain ⟨y0,_⟩:=ro_cf k2 0 _ rfl
 clear k2 ht
 clear h hs
 generalize blA S=cs at *
 generalize rq (fT t b.ti && lfit t b.lp) 18=r at *
 go_enter Tryz.func167,Tryz.ntmps167
 go_wp2_with (refine load_row_g (by rfl) 28 _ rfl _ rfl _ _ _ k.out Tryz.underlying28 rfl G.1 ?_)
 refine C.out.mono ?_
 rintro e w1 ⟨rfl,h1⟩
 clear C k
 go_wp2
 go_ret
 exact ⟨rfl,h1⟩
theorem rule4 (S:BkS) (b:Bk) (g:Nat) (w:World) (h:IsBk w S b) (hs:S.small) (k:Ro w g (blA S) 28):Calls Tryz.prog 171 #[.pointer (some ⟨g,0,none⟩)] w fun e w'=>e=.returned (.int .i64 (rq (ixOk b.ty.length b.ix) 8))∧Below w.heap.size w w':=by
 have C:=hide (show Calls Tryz.prog 172 #[.agg (blA S)] w _ from checkIndex S b w h hs)
 have G:=gr_blk S
 replace k:=hide k
 clear h hs
 generalize blA S=cs at *
 generalize rq (ixOk b.ty.length b.ix) 8=r at *
 go_enter Tryz.func171,Tryz.ntmps171
 go_wp2_with (refine load_row_g (by rfl) 28 _ rfl _ rfl _ _ _ k.out Tryz.underlying28 rfl G.1 ?_)
 refine C.out.mono ?_
 rintro e w1 ⟨rfl,h1⟩
 clear C k
 go_wp2
 go_ret
 exact ⟨rfl,h1⟩
theorem rule3 (S:BkS) (b:Bk) (g:Nat) (w:World) (h:IsBk w S b) (hs:S.small) (k:Ro w g (blA S) 28):Calls Tryz.prog 169 #[.pointer (some ⟨g,0,none⟩)] w fun e w'=>e=.returned (.int .i64 (rq (decide (desc b.ti<0)) 7))∧Below w.heap.size w w':=by
 have C:=hide (tr_.Descent S.ti.A S.ti.n S.ti.c b.ti w (by have:=hs.ti;omega) h.oti.1 h.ti)
 generalize desc b.ti=D at *
 have C2:=hide (fun w=>require (decide (D<0)) 7 w)
 generalize rq (decide (D<0)) 7=r at *
 replace k:=hide k
 obtain ⟨y0,_⟩:=ro_cf k.out 0 _ rfl
 clear h hs k
 obtain ⟨⟨A0,n0,c0⟩,⟨A1,n1,c1⟩,⟨A2,n2,c2⟩,⟨A3,n3,c3⟩,⟨A4,n4,c4⟩,⟨A5,n5,c5⟩,⟨A6,n6,c6⟩⟩:=S
 dsimp only at y0 C
 go_enter Tryz.func169,Tryz.ntmps169
 go_wp2_with fail
 refine C.out.mono ?_
 rintro e w1 ⟨rfl,h1⟩
 clear C y0
 go_wp2_with fail
 refine (C2.out _).mono ?_
 rintro e w2 ⟨rfl,h2⟩
 have hb:=hide (bel_next h1 h2)
 clear C2
 go_wp2
 go_ret
 exact ⟨rfl,hb.out⟩
theorem rule5 (S:BkS) (b:Bk) (g:Nat) (w:World) (h:IsBk w S b) (hs:S.small) (k:Ro w g (blA S) 28):Calls Tryz.prog 173 #[.pointer (some ⟨g,0,none⟩)] w fun e w'=>e=.returned (.int .i64 (chk b.ty b.ch.length))∧Below w.heap.size w w':=by
 have C:=hide (tt_.Check S.ty.A S.ty.n S.ty.c b.ty S.ch.n w (by have:=hs.ty;omega) h.oty.1 h.ty h.ok.ty (by have:=hs.ch;omega) (by have:=hs.ch;omega))
 rw [h.lens.2.2.2.1]
 generalize chk b.ty S.ch.n=D at *
 replace k:=hide k
 obtain ⟨y2,_⟩:=ro_cf k.out 2 _ rfl
 obtain ⟨y3,_⟩:=ro_cf k.out 3 _ rfl
 clear h hs k
 obtain ⟨⟨A0,n0,c0⟩,⟨A1,n1,c1⟩,⟨A2,n2,c2⟩,⟨A3,n3,c3⟩,⟨A4,n4,c4⟩,⟨A5,n5,c5⟩,⟨A6,n6,c6⟩⟩:=S
 dsimp only at y2 y3 C
 go_enter Tryz.func173,Tryz.ntmps173
 go_wp2_with fail
 refine C.out.mono ?_
 rintro e w1 ⟨rfl,h1⟩
 clear C y2 y3
 go_wp2
 go_ret
 exact ⟨rfl,h1⟩
theorem rule6 (S:BkS) (b:Bk) (g:Nat) (w:World) (h:IsBk w S b) (hs:S.small) (k:Ro w g (blA S) 28):Calls Tryz.prog 175 #[.pointer (some ⟨g,0,none⟩)] w fun e w'=>e=.returned (.int .i64 (rq (decide (badL b.ch=-1)) 11))∧Below w.heap.size w w':=by
 have C:=hide (ds_.Valid S.ch.A S.ch.n S.ch.c b.ch w h.ch (fun x hx=>h.ok.ch.mem x hx) (by have:=hs.ch;omega) h.och.2.1 h.och.2.2)
 generalize decide (badL b.ch=-1)=D at *
 have C2:=hide (fun w=>require D 11 w)
 generalize rq D 11=r at *
 replace k:=hide k
 obtain ⟨y3,_⟩:=ro_cf k.out 3 _ rfl
 clear h hs k
 obtain ⟨⟨A0,n0,c0⟩,⟨A1,n1,c1⟩,⟨A2,n2,c2⟩,⟨A3,n3,c3⟩,⟨A4,n4,c4⟩,⟨A5,n5,c5⟩,⟨A6,n6,c6⟩⟩:=S
 dsimp only at y3 C
 go_enter Tryz.func175,Tryz.ntmps175
 go_wp2_with fail
 refine C.out.mono ?_
 rintro e w1 ⟨rfl,h1⟩
 clear C y3
 go_wp2_with fail
 refine (C2.out _).mono ?_
 rintro e w2 ⟨rfl,h2⟩
 have hb:=hide (bel_next h1 h2)
 clear C2
 go_wp2
 go_ret
 exact ⟨rfl,hb.out⟩
theorem rule7 (S:BkS) (b:Bk) (g:Nat) (g2:Nat) (v:Int) (four:Bool) (w:World) (h:IsBk w S b) (hs:S.small) (k:Ro w g (blA S) 28) (k2:Ro w g2 #[.int .i64 v] 3) (hv0:1≤v) (hv1:v≤4) (hf:decide (v=4)=four):Calls Tryz.prog 177 #[.pointer (some ⟨g,0,none⟩),.pointer (some ⟨g2,0,none⟩)] w fun e w'=>e=.returned (.int .i64 (rq (vL b.lp four) 12))∧Below w.heap.size w w':=by
 have C:=hide (lp_.Valid S.lp.A S.lp.n S.lp.c b.lp v four w hv0 hv1 hf (by have:=hs.lp;omega) ⟨h.olp.1,h.olp.2.1⟩ h.lp h.ok.lp)
 obtain ⟨z0,_⟩:=ro_cf k2 0 _ rfl
 generalize vL b.lp four=D at *
 clear k2 hv0 hv1 hf
 have C2:=hide (fun w=>require D 12 w)
 generalize rq D 12=r at *
 replace k:=hide k
 obtain ⟨y4,_⟩:=ro_cf k.out 4 _ rfl
 clear h hs k
 obtain ⟨⟨A0,n0,c0⟩,⟨A1,n1,c1⟩,⟨A2,n2,c2⟩,⟨A3,n3,c3⟩,⟨A4,n4,c4⟩,⟨A5,n5,c5⟩,⟨A6,n6,c6⟩⟩:=S
 dsimp only at y4 C
 go_enter Tryz.func177,Tryz.ntmps177
 go_wp2_with fail
 refine C.out.mono ?_
 rintro e w1 ⟨rfl,h1⟩
 clear C y4
 go_wp2_with fail
 refine (C2.out _).mono ?_
 rintro e w2 ⟨rfl,h2⟩
 have hb:=hide (bel_next h1 h2)
 clear C2
 go_wp2
 go_ret
 exact ⟨rfl,hb.out⟩
theorem rule8 (S:BkS) (b:Bk) (g:Nat) (w:World) (h:IsBk w S b) (hs:S.small) (k:Ro w g (blA S) 28) (hI:Ti w):Calls Tryz.prog 179 #[.pointer (some ⟨g,0,none⟩)] w fun e w'=>e=.returned (.int .i64 (rq (cn b.sd b.ut) 13))∧Below w.heap.size w w':=by
 have C:=hide (in_.Consistent S.sd.A S.ut.A S.sd.n S.ut.n S.sd.c S.ut.c b.sd b.ut w hI (by have:=hs.sd;omega) (by have:=hs.ut;omega) h.osd.1 h.out_.1 h.osd.2.1 h.out_.2.1 h.osd.2.2 h.out_.2.2 h.sd h.ut)
 generalize cn b.sd b.ut=D at *
 have C2:=hide (fun w=>require D 13 w)
 generalize rq D 13=r at *
 replace k:=hide k
 obtain ⟨y5,_⟩:=ro_cf k.out 5 _ rfl
 obtain ⟨y6,_⟩:=ro_cf k.out 6 _ rfl
 clear h hs k hI
 obtain ⟨⟨A0,n0,c0⟩,⟨A1,n1,c1⟩,⟨A2,n2,c2⟩,⟨A3,n3,c3⟩,⟨A4,n4,c4⟩,⟨A5,n5,c5⟩,⟨A6,n6,c6⟩⟩:=S
 dsimp only at y5 y6 C
 go_enter Tryz.func179,Tryz.ntmps179
 go_wp2_with fail
 refine C.out.mono ?_
 rintro e w1 ⟨rfl,h1⟩
 clear C y5 y6
 go_wp2_with fail
 refine (C2.out _).mono ?_
 rintro e w2 ⟨rfl,h2⟩
 have hb:=hide (bel_next h1 h2)
 clear C2
 go_wp2
 go_ret
 exact ⟨rfl,hb.out⟩
def fsB (g g1 g2:Nat):List Value:=[.func (.func 165) #[] #[.pointer (some ⟨g,0,none⟩)],.func (.func 167) #[] #[.pointer (some ⟨g,0,none⟩),.pointer (some ⟨g2,0,none⟩)],.func (.func 169) #[] #[.pointer (some ⟨g,0,none⟩)],.func (.func 171) #[] #[.pointer (some ⟨g,0,none⟩)],.func (.func 173) #[] #[.pointer (some ⟨g,0,none⟩)],.func (.func 175) #[] #[.pointer (some ⟨g,0,none⟩)],.func (.func 177) #[] #[.pointer (some ⟨g,0,none⟩),.pointer (some ⟨g1,0,none⟩)],.func (.func 179) #[] #[.pointer (some ⟨g,0,none⟩)]]
theorem ro_2 (w:World) (o:Obj) (vs:Array Value) (T:TypeId):Ro ((w.alloc o).alloc (.cells vs T)) (w.heap.size+1) vs T:=by
 have:=Ro.new (w.alloc o) vs T
 simp only [World.size_alloc] at this
 exact this
theorem blockRules (S:BkS) (v t:Int) (w:World):Calls Tryz.prog 126 #[.agg (blA S),.int .i64 v,.int .i64 t] w fun e w'=>∃ g g1 g2 gr,e=.returned (.slice (some ⟨gr,0,none⟩) 8 8)∧Rd w' (some ⟨gr,0,none⟩) 8 (fsB g g1 g2)∧Ro w' g (blA S) 28∧Ro w' g1 #[.int .i64 v] 3∧Ro w' g2 #[.int .i64 t] 3∧Below w.heap.size w w':=by
 generalize blA S=cs
 have hb:=hide (bl_alloc (bl_alloc (bl_new w (.cells cs 28)) (.cells #[.int .i64 v] 3)) (.cells #[.int .i64 t] 3))
 have k:=hide (((Ro.new w cs 28).alloc (.cells #[.int .i64 v] 3)).alloc (.cells #[.int .i64 t] 3))
 have k1:=hide ((ro_2 w (.cells cs 28) #[.int .i64 v] 3).alloc (.cells #[.int .i64 t] 3))
 have k2:=hide (ro_2 (w.alloc (.cells cs 28)) (.cells #[.int .i64 v] 3) #[.int .i64 t] 3)
 simp only [World.size_alloc] at k2
 go_enter Tryz.func126,Tryz.ntmps126
 go_upto_region 1 with fail
 generalize (((w.alloc (.cells cs 28)).alloc (.cells #[.int .i64 v] 3)).alloc (.cells #[.int .i64 t] 3))=u at *
 generalize w.heap.size+1+1=g2 at *
 generalize w.heap.size+1=g1 at *
 go_wp2
 go_ret
 exact ⟨w.heap.size,g1,g2,_,rfl,Rd.lit u 160 (fsB w.heap.size g1 g2),k.out.alloc _,k1.out.alloc _,k2.out.alloc _,bl_alloc hb.out _⟩
theorem first_ (B n:Nat) (fs:List Value) (es:List Int) (w:World) (hr:Rd w (some ⟨B,0,none⟩) n fs) (hl:es.length=n) (hn:n≤1000)
 (hF:∀ i,i<n→(∀ j,j<i→es[j]?=some 0)→∃ (F:FuncId) (cb:Array Value) (x:Int),fs[i]?=some (.func (.func F) #[] cb)∧es[i]?=some x∧(∀ args w,(callFunc F args).run Tryz.prog w=.ok (.enter F args) w)∧∀ w',Below w.heap.size w w'→Calls Tryz.prog F cb w' fun e w''=>e=.returned (.int .i64 x)∧Below w'.heap.size w' w'') :
 Calls Tryz.prog 50 #[.slice (some ⟨B,0,none⟩) n n] w fun e w'=>e=.returned (.int .i64 (fnz es))∧Below w.heap.size w w':=by
 obtain ⟨r,hrr⟩:∃ r,r=fnz es:=⟨_,rfl⟩
 rw [← hrr]
 replace hrr:=hide hrr
 replace hF:=hide hF
 replace hr:=hide hr
 replace hl:=hide hl
 go_enter Tryz.func50,Tryz.ntmps50
 go_wp2_with fail
 go_loopw [8] (fun i wr=>∃ k:Nat,k≤n∧i=.int .i64 (k:Nat)∧Hid (∀ j,j<k→es[j]?=some 0)∧Hid (Below w.heap.size w wr)) (fun i _=>n - (intOf i).toNat)
 case atStart=>exact ⟨0,by omega,rfl,hide (fun j h=>by omega),hide (bl_refl w)⟩
 case round =>
  obtain ⟨k,hk,rfl,ha,hw⟩:=hrel
  by_cases hlt:k<n
  ·obtain ⟨F,cb,x,c1,ex,E,C⟩:=hF.out k hlt ha.out
   have m1:=(hr.out.below hw.out).flat0 c1
   have CC:=hide (C wr hw.out)
   replace E:=hide E
   have hno:=hide (fun (hz:x≠0)=>fnz_at ha.out ex hz)
   have hyes:=hide (fun (hz:x=0)=>show ∀ j,j<k+1→es[j]?=some 0 from fun j hj=>by
    rcases Nat.lt_succ_iff_lt_or_eq.1 hj with h | rfl
    ·exact ha.out j h
    ·rw [ex,hz])
   clear C c1 ex
   by_cases hx:x=0
   ·subst hx
    have hy:=hide (hyes.out rfl)
    clear hno hyes
    go_wp2_with fail
    rw [E.out,Oper.upon_enter]
    refine CC.out.mono ?_
    rintro e w2 ⟨rfl,h2⟩
    have hb2:=hide (bel_next hw.out h2)
    clear CC hw h2 m1
    go_wp2
    go_roundw
    case rel=>exact ⟨k+1,by omega,by go_num,hy,hb2⟩
    case measure=>simp [intOf];omega
   ·obtain rfl:r=x:=by rw [hrr.out];exact hno.out hx
    have d1:(r != 0)=true:=by simpa using hx
    have d2:decide (r=0)=false:=decide_eq_false hx
    clear hno hyes
    replace hx:=hide hx
    go_wp2_with fail
    rw [E.out,Oper.upon_enter]
    refine CC.out.mono ?_
    rintro e w2 ⟨rfl,h2⟩
    have hb2:=hide (bel_next hw.out h2)
    clear CC hw h2 m1
    go_wp2
    go_ret
    exact ⟨rfl,hb2.out⟩
  ·obtain rfl:k=n:=by omega
   obtain rfl:r=0:=by rw [hrr.out];exact fnz_all (fun j hj=>ha.out j (by rw [← hl.out];exact hj))
   go_wp2
   go_ret
   exact ⟨rfl,hw.out⟩
theorem Block (S:BkS) (b:Bk) (v:Int) (four:Bool) (k:Nat) (K:Int) (w:World) (hK:K=(k:Int)) (hk:k=4∨k=8) (hv0:1≤v) (hv1:v≤4) (hf:decide (v=4)=four) (h:IsBk w S b) (hs:S.small) (hI:Ti w:=by trivial) :
 Calls Tryz.prog 76 #[bkV S,.int .i64 v,.int .i64 K] w fun e w'=>e=.returned (.int .i64 (vB b four k))∧Below w.heap.size w w':=by
 subst hK
 show Calls Tryz.prog 76 #[.agg (blA S),.int .i64 v,.int .i64 k] w _
 have BR:=hide (fun w=>blockRules S v k w)
 have FV:=hide (fun g g1 g2 gr W (hb:Below w.heap.size w W) (hr:Rd W (some ⟨gr,0,none⟩) 8 (fsB g g1 g2)) (r0:Ro W g (blA S) 28) (r1:Ro W g1 #[.int .i64 v] 3) (r2:Ro W g2 #[.int .i64 k] 3) =>
  first_ gr 8 (fsB g g1 g2) [rq (cntOk b) 6,rq (fT k b.ti && lfit k b.lp) 18,rq (decide (desc b.ti<0)) 7,rq (ixOk b.ty.length b.ix) 8,chk b.ty b.ch.length,rq (decide (badL b.ch=-1)) 11,rq (vL b.lp four) 12,rq (cn b.sd b.ut) 13] W hr rfl (by decide) (fun i hi _=>by
   rcases (show i=0∨i=1∨i=2∨i=3∨i=4∨i=5∨i=6∨i=7 by omega) with rfl | rfl | rfl | rfl | rfl | rfl | rfl | rfl
   ·exact ⟨_,_,_,rfl,rfl,lp_.enters Tryz.func165 (by kernel_rfl) (by kernel_rfl),fun W' hW=>rule1 S b g W' ((h.below hb).below hW) hs (r0.below hW)⟩
   ·exact ⟨_,_,_,rfl,rfl,lp_.enters Tryz.func167 (by kernel_rfl) (by kernel_rfl),fun W' hW=>rule2 S b g g2 k W' ((h.below hb).below hW) hs (r0.below hW) (r2.below hW) hk⟩
   ·exact ⟨_,_,_,rfl,rfl,lp_.enters Tryz.func169 (by kernel_rfl) (by kernel_rfl),fun W' hW=>rule3 S b g W' ((h.below hb).below hW) hs (r0.below hW)⟩
   ·exact ⟨_,_,_,rfl,rfl,lp_.enters Tryz.func171 (by kernel_rfl) (by kernel_rfl),fun W' hW=>rule4 S b g W' ((h.below hb).below hW) hs (r0.below hW)⟩
   ·exact ⟨_,_,_,rfl,rfl,lp_.enters Tryz.func173 (by kernel_rfl) (by kernel_rfl),fun W' hW=>rule5 S b g W' ((h.below hb).below hW) hs (r0.below hW)⟩
   ·exact ⟨_,_,_,rfl,rfl,lp_.enters Tryz.func175 (by kernel_rfl) (by kernel_rfl),fun W' hW=>rule6 S b g W' ((h.below hb).below hW) hs (r0.below hW)⟩
   ·exact ⟨_,_,_,rfl,rfl,lp_.enters Tryz.func177 (by kernel_rfl) (by kernel_rfl),fun W' hW=>rule7 S b g g1 v four W' ((h.below hb).below hW) hs (r0.below hW) (r1.below hW) hv0 hv1 hf⟩
   ·exact ⟨_,_,_,rfl,rfl,lp_.enters Tryz.func179 (by kernel_rfl) (by kernel_rfl),fun W' hW=>rule8 S b g W' ((h.below hb).below hW) hs (r0.below hW) ((hI.below hb).below hW)⟩)
 )
 rw [← vB_fnz] at FV
 generalize vB b four k=r at *
 have G:=gr_blk S
 have k3:=hide (Ro.new w (blA S) 28)
 have hb:=hide (bl_new w (.cells (blA S) 28))
 clear h hs hk hv0 hv1 hf hI
 generalize blA S=cs at *
 go_enter Tryz.func76,Tryz.ntmps76
 go_upto_region 1 with fail
 generalize (w.alloc (.cells cs 28))=u at *
 go_wp2_with (refine load_row_g (by rfl) 28 _ rfl _ rfl _ _ _ k3.out Tryz.underlying28 rfl G.1 ?_)
 refine (BR.out _).mono ?_
 rintro e w1 ⟨g,g1,g2,gr,rfl,hr,r0,r1,r2,h1⟩
 replace hb:=hide (bel_next hb.out h1)
 have FC:=hide (FV.out g g1 g2 gr w1 hb.out hr r0 r1 r2)
 clear FV BR hr r0 r1 r2 h1 k3
 go_wp2_with fail
 refine FC.out.mono ?_
 rintro e w2 ⟨rfl,h1⟩
 replace hb:=hide (bel_next hb.out h1)
 clear h1 FC
 go_wp2
 go_ret
 exact ⟨rfl,hb.out⟩
end vd_
theorem eqR (w:World) (a a':Int) (b b':Bool) (s s':ByteArray):(binOp .eql 90 (.agg #[.bool true,.int .i64 a,.bool b,.string s]) (.agg #[.bool true,.int .i64 a',.bool b',.string s'])).run Tryz.prog w=.ok (.bool (decide (a=a') && decide (b=b') && decide (s=s'))) w:=by
 have e:(s.toList=s'.toList) ↔ s=s':=by
  constructor
  ·intro h
   rw [ByteArray.toList_eq,ByteArray.toList_eq] at h
   exact ByteArray.ext (Array.toList_inj.1 h)
  ·rintro rfl;rfl
 simp only [← e]
 simp [go_sem]
 by_cases h1:a=a' <;> by_cases h2:b=b' <;> by_cases h3:s.toList=s'.toList <;> simp [h1,h2,h3]
def rn (s:ByteArray) (k:Nat):Int:=(Utf8.decode s k).1
def rw_ (s:ByteArray) (k:Nat):Nat:=(Utf8.decode s k).2
theorem rn_low {s:ByteArray} {k:Nat} (h:k<s.size) (hl:(s[k].toNat:Int)<128):rn s k=s[k].toNat∧rw_ s k=1:=by
 unfold rn rw_
 rw [decode_ascii s k h (by omega)]
 exact ⟨rfl,rfl⟩
theorem rn_high {s:ByteArray} {k:Nat} (h:k<s.size) (hl:128≤(s[k].toNat:Int)):128≤rn s k∧1≤rw_ s k:=by
 have:=decode_high s k h (by omega)
 unfold rn rw_
 exact ⟨by have:=this.1;omega,this.2⟩
theorem next_in {P:Program} (w:World) (s:ByteArray) (k:Nat) (ty:TypeId) (h:k<s.size) :
 (Instr.next (.pointer (some ⟨w.heap.size,0,none⟩)) true ty).run P (w.iter s k)=.ok (.tuple #[.bool true,.int .i64 k,.int .i32 (rn s k)]) (w.iter s (k+rw_ s k)):=run_next_any w s k ty h
theorem iter_below (w:World) (s:ByteArray) (k:Nat):Below w.heap.size w (w.iter s k):=bl_new w _
theorem rn_test {f:Int→Bool} (hf:∀ x,128≤x→f x=false) {s:ByteArray} {k:Nat} (h:k<s.size):f (rn s k)=f (s[k].toNat:Int)∧(f (s[k].toNat:Int)=true→rw_ s k=1):=by
 by_cases hl:(s[k].toNat:Int)<128
 ·obtain ⟨h1,h2⟩:=rn_low h hl
  exact ⟨by rw [h1],fun _=>h2⟩
 ·obtain ⟨h1,_⟩:=rn_high h (by omega)
  exact ⟨by rw [hf _ h1,hf _ (by omega)],fun h3=>by rw [hf _ (by omega)] at h3;cases h3⟩
theorem pre_facts (p:UInt8→Bool) (s:ByteArray):∃ n,((byt s).takeWhile p).length=n∧n≤s.size∧(∀ k (h:k<s.size),k<n→p s[k]=true)∧(∀ h:n<s.size,p s[n]=false):=by
 have hle:=tw_le p (byt s)
 rw [len_byt] at hle
 refine ⟨_,rfl,hle,fun k h hk=>?_,fun h=>?_⟩
 ·rw [← get_byt s k h]
  exact tw_lt hk _
 ·rw [← get_byt s _ h]
  exact tw_at (by rw [len_byt];exact h)
def sgnH (l:List UInt8):Nat:=match l with | []=>0 | c :: _=>if (c.toNat:Int)=43∨(c.toNat:Int)=45 then 1 else 0
namespace hm_
theorem signSize (s:ByteArray) (w:World) (hs:s.size≤1000000):Calls Tryz.prog 260 #[.string s] w fun e w'=>e=.returned (.int .i64 (sgnH (byt s)))∧w=w':=by
 cases h:byt s with
 | nil =>
   have e:s=⟨#[]⟩:=by rw [← byt_inj,h]
   subst e
   go_enter Tryz.func260,Tryz.ntmps260
   go_wp2
   go_ret
   exact ⟨rfl,rfl⟩
 | cons c t =>
   obtain ⟨hi,hc,_⟩:=drop_cons (s:=s) (i:=0) (c:=c) (t:=t) (by rw [h];rfl)
   obtain ⟨x,hx⟩:∃ x:Int,(c.toNat:Int)=x:=⟨_,rfl⟩
   have hf:=hide (show sgnH (c :: t)=if x=43∨x=45 then 1 else 0 by show (if (c.toNat:Int)=43∨(c.toNat:Int)=45 then 1 else 0)=_;rw [hx])
   rw [hf.out]
   rw [← hc] at hx
   have hne:¬ s=⟨#[]⟩:=by rintro rfl;exact absurd hi (by decide)
   have hne2:=seq_ne hne
   have hne3:s.toList.isEmpty=false:=by
    rcases q:s.toList with _ | _
    ·rw [q,show (⟨#[]⟩:ByteArray).toList=[] by simp] at hne2;exact absurd hne2 (by decide)
    ·rfl
   clear hne hne2
   clear h hc
   rcases (show x=43∨x=45∨((x == 43)=false∧(x == 45)=false) by by_cases a:x=43 <;> by_cases b:x=45 <;> simp [a,b]) with rfl | rfl | ⟨h4,h5⟩
   ·go_enter Tryz.func260,Tryz.ntmps260
    go_wp2
    go_ret
    exact ⟨rfl,rfl⟩
   ·go_enter Tryz.func260,Tryz.ntmps260
    go_wp2
    go_ret
    exact ⟨rfl,rfl⟩
   ·have hno:¬ (x=43∨x=45):=by simp at h4 h5;omega
    rw [if_neg hno]
    clear hno
    go_enter Tryz.func260,Tryz.ntmps260
    go_wp2
    go_ret
    exact ⟨rfl,rfl⟩
theorem countDigits (s:ByteArray) (w:World) (hs:s.size≤1000000):Calls Tryz.prog 261 #[.string s] w fun e w'=>e=.returned (.int .i64 ((byt s).takeWhile dig).length)∧w=w':=by
 obtain ⟨n,hn,hle,hin,hout⟩:=pre_facts dig s
 rw [hn]
 have H1:=hide hin
 have H2:=hide hout
 clear hn hin hout
 go_enter Tryz.func261,Tryz.ntmps261
 go_wp2
 go_loop [3] (fun v=>∃ k:Nat,k≤n∧v=.int .i64 k) (fun v=>n+1 - (intOf v).toNat)
 case atStart=>exact ⟨0,Nat.zero_le _,rfl⟩
 case round =>
  obtain ⟨k,hk,rfl⟩:=hrel
  by_cases hlt:k<n
  ·have hks:k<s.size:=by omega
   obtain ⟨y0,y1⟩:=r8_.dig_bd (H1.out k hks hlt)
   go_wp2
   go_round
   case rel=>exact ⟨k+1,by omega,by go_num⟩
   case measure=>simp [intOf];omega
  ·obtain rfl:k=n:=by omega
   have hend:s.size≤k∨(∃ h:k<s.size,((s[k]'h).toNat:Int)<48∨57<((s[k]'h).toNat:Int)):=by
    rcases Nat.lt_or_ge k s.size with h | h
    ·refine .inr ⟨h,?_⟩
     have:=H2.out h
     unfold dig at this
     simp at this
     omega
    ·exact .inl h
   rcases hend with he | ⟨he,he | he⟩
   all_goals
    go_wp2
    go_ret
    exact ⟨rfl,rfl⟩
theorem number (s:ByteArray) (w:World) (hs:s.size≤3) (hd:∀ c ∈ byt s,dig c=true):Calls Tryz.prog 262 #[.string s] w fun e w'=>e=.returned (.int .i64 (dval (byt s)))∧w=w':=by
 have hl:=len_byt s
 have HD:=hide (fun k (h:k<s.size)=>hd s[k] (by rw [← get_byt s k h];exact List.getElem_mem _))
 have HB:=hide (fun k (hk:k≤s.size)=>dval_bd k ((byt s).take k) (by rw [List.length_take];omega) (fun c hc=>hd c (List.mem_of_mem_take hc)) (by omega))
 have HS:=hide (fun k (h:k<s.size)=>show dval ((byt s).take (k+1))=10 * dval ((byt s).take k)+s[k].toNat - 48 by
  rw [List.take_succ_eq_append_getElem (by rw [hl];exact h),dval_snoc,get_byt])
 have HE:=hide (show dval (byt s)=dval ((byt s).take s.size) by rw [List.take_of_length_le (by omega)])
 clear hd hl
 go_enter Tryz.func262,Tryz.ntmps262
 go_wp2
 go_loop [3,7] (fun v i=>∃ (k:Nat) (x:Int),k≤s.size∧i=.int .i64 k∧v=.int .i64 x∧0≤x∧x≤999∧Hid (x=dval ((byt s).take k))) (fun _ i=>s.size - (intOf i).toNat)
 case atStart=>exact ⟨0,0,Nat.zero_le _,rfl,rfl,by omega,by omega,hide rfl⟩
 case round =>
  obtain ⟨k,x,hk,rfl,rfl,x0,x1,hx⟩:=hrel
  rcases Nat.lt_or_ge k s.size with hlt | hge
  ·obtain ⟨y,hy⟩:∃ y:Int,(s[k].toNat:Int)=y:=⟨_,rfl⟩
   obtain ⟨y0,y1⟩:=r8_.dig_bd (HD.out k hlt)
   rw [hy] at y0 y1
   have e1:=HS.out k hlt
   have e2:=HB.out (k+1) hlt
   rw [← hx.out,hy] at e1
   rw [e1] at e2
   replace e1:=hide e1
   obtain ⟨e2,e3,_⟩:=e2
   go_wp2
   go_round
   case rel=>exact ⟨k+1,10 * x+y - 48,by omega,by go_num,by go_num,e2,e3,hide e1.out.symm⟩
   case measure=>simp [intOf];omega
  ·obtain rfl:k=s.size:=by omega
   go_wp2
   go_ret
   exact ⟨reti (by rw [HE.out];exact hx.out),rfl⟩
theorem fld2 {a b:UInt8}:dval [a,b]=10 * ((a.toNat:Int) - 48)+b.toNat - 48:=by unfold dval;simp
theorem field (s:ByteArray) (w:World) (hs:s.size≤1000000):Calls Tryz.prog 280 #[.string s,.int .i64 59] w fun e w'=>e=.returned (.tuple #[.int .i64 (if 0≤hmsField (byt s) then hmsField (byt s) else 0),.bool (decide (0≤hmsField (byt s)))])∧w=w':=by
 have hl:=len_byt s
 rcases hb:byt s with _ | ⟨c,_ | ⟨a,_ | ⟨b,t⟩⟩⟩
 ·rw [hb] at hl
  have h3:s.size=0:=hl.symm
  clear hl hb
  go_enter Tryz.func280,Tryz.ntmps280
  go_wp2
  go_ret2
  exact ⟨rfl,rfl⟩
 ·rw [hb] at hl
  have h3:s.size=1:=hl.symm
  clear hl hb
  go_enter Tryz.func280,Tryz.ntmps280
  go_wp2
  go_ret2
  exact ⟨rfl,rfl⟩
 ·rw [hb] at hl
  have h3:s.size=2:=hl.symm
  clear hl hb
  go_enter Tryz.func280,Tryz.ntmps280
  go_wp2
  go_ret2
  exact ⟨rfl,rfl⟩
 have h3:3≤s.size:=by rw [← hl,hb];simp
 obtain ⟨hi,hc,_⟩:=drop_cons (s:=s) (i:=0) (c:=c) (t:=a :: b :: t) (by rw [hb];rfl)
 obtain ⟨x,hx⟩:∃ x:Int,(c.toNat:Int)=x:=⟨_,rfl⟩
 have hsub:byt (s.extract 1 3)=[a,b]:=by rw [byt_extract,hb];rfl
 have hss:(s.extract 1 3).size=2:=by rw [← len_byt,hsub];rfl
 have C:=hide (fun w=>countDigits (s.extract 1 3) w (by omega))
 rw [hsub] at C
 obtain ⟨v,hv⟩:∃ v,v=hmsField (c :: a :: b :: t):=⟨_,rfl⟩
 have hvd:v=if x=58∧dig a∧dig b∧10 * ((a.toNat:Int) - 48)+b.toNat - 48≤59 then 10 * ((a.toNat:Int) - 48)+b.toNat - 48 else -1:=by rw [hv,← hx];rfl
 rw [← hv]
 rw [← hc] at hx
 clear hl hb hc hv
 rcases (show x=58∨(x != 58)=true by by_cases h:x=58 <;> simp [h]) with rfl | h58
 rotate_left
 ·have hF:v=-1:=by rw [hvd,if_neg (by simp at h58;omega)]
  subst hF
  clear hvd C hsub hss
  go_enter Tryz.func280,Tryz.ntmps280
  go_wp2
  go_ret2
  exact ⟨rfl,rfl⟩
 rcases ha:dig a
 ·have hF:v=-1:=by rw [hvd,if_neg (by rw [ha];simp)]
  subst hF
  rw [show ([a,b].takeWhile dig).length=0 by simp [ha]] at C
  clear hvd hsub hss ha
  go_enter Tryz.func280,Tryz.ntmps280
  go_wp2_with (go_at_call 261;refine (C.out _).mono ?_;rintro e w' ⟨rfl,rfl⟩)
  go_ret2
  exact ⟨rfl,rfl⟩
 rcases hb:dig b
 ·have hF:v=-1:=by rw [hvd,if_neg (by rw [hb];simp)]
  subst hF
  rw [show ([a,b].takeWhile dig).length=1 by simp [ha,hb]] at C
  clear hvd hsub hss ha hb
  go_enter Tryz.func280,Tryz.ntmps280
  go_wp2_with (go_at_call 261;refine (C.out _).mono ?_;rintro e w' ⟨rfl,rfl⟩)
  go_ret2
  exact ⟨rfl,rfl⟩
 rw [show ([a,b].takeWhile dig).length=2 by simp [ha,hb]] at C
 have N:=hide (fun w=>number (s.extract 1 3) w (by omega) (by rw [hsub];intro c hc;simp at hc;rcases hc with rfl | rfl <;> assumption))
 rw [hsub,fld2] at N
 have A1:=r8_.dig_bd ha
 have B1:=r8_.dig_bd hb
 rw [ha,hb] at hvd
 obtain ⟨y,hy⟩:∃ y,y=10 * ((a.toNat:Int) - 48)+b.toNat - 48:=⟨_,rfl⟩
 rw [← hy] at hvd N
 have y0:0≤y:=by omega
 have y1:y≤99:=by omega
 clear hsub hss ha hb A1 B1 hy
 by_cases h59:y≤59
 ·have hF:v=y:=by rw [hvd,if_pos ⟨rfl,rfl,rfl,h59⟩]
  subst hF
  rw [show (if 0≤v then v else 0)=v from if_pos y0,show decide (0≤v)=true by simp [y0]]
  clear hvd
  go_enter Tryz.func280,Tryz.ntmps280
  go_wp2_with (first
   | (go_at_call 261;refine (C.out _).mono ?_;rintro e w' ⟨rfl,rfl⟩)
   | (go_at_call 262;refine (N.out _).mono ?_;rintro e w' ⟨rfl,rfl⟩))
  go_ret2
  exact ⟨rfl,rfl⟩
 ·have hF:v=-1:=by rw [hvd,if_neg (by omega)]
  subst hF
  clear hvd
  go_enter Tryz.func280,Tryz.ntmps280
  go_wp2_with (first
   | (go_at_call 261;refine (C.out _).mono ?_;rintro e w' ⟨rfl,rfl⟩)
   | (go_at_call 262;refine (N.out _).mono ?_;rintro e w' ⟨rfl,rfl⟩))
  go_ret2
  exact ⟨rfl,rfl⟩
end hm_
def hmsVals (l:List UInt8):Int × Int × Nat :=
 if 0≤hmsField l then (if 0≤hmsField (l.drop 3) then (hmsField l,hmsField (l.drop 3),6) else (hmsField l,0,3)) else (0,0,0)
theorem tail_vals {l:List UInt8} {a b:Int} {n:Nat} (h:hmsVals l=(a,b,n)):hmsTail l=(60 * a+b,n)∧0≤a∧a≤59∧0≤b∧b≤59∧n≤6:=by
 have b1:=hmsField_bd l
 have b2:=hmsField_bd (l.drop 3)
 unfold hmsVals at h
 unfold hmsTail
 by_cases h1:0≤hmsField l
 ·by_cases h2:0≤hmsField (l.drop 3)
  ·rw [if_pos h1,if_pos h2] at h
   rw [if_pos h1,if_pos h2]
   simp only [Prod.mk.injEq] at h
   obtain ⟨rfl,rfl,rfl⟩:=h
   exact ⟨rfl,h1,b1.2,h2,b2.2,Nat.le_refl _⟩
  ·rw [if_pos h1,if_neg h2] at h
   rw [if_pos h1,if_neg h2]
   simp only [Prod.mk.injEq] at h
   obtain ⟨rfl,rfl,rfl⟩:=h
   exact ⟨by rw [Int.add_zero],h1,b1.2,by omega,by omega,by omega⟩
 ·rw [if_neg h1] at h
  rw [if_neg h1]
  simp only [Prod.mk.injEq] at h
  obtain ⟨rfl,rfl,rfl⟩:=h
  exact ⟨rfl,by omega,by omega,by omega,by omega,by omega⟩
theorem elInt:ElT Tryz.prog 309 3 (.int .i64 0) 8:=⟨Tryz.underlying309,by kernel_rfl,rfl⟩
namespace hm_
theorem field_ (s:ByteArray) (l:List UInt8) (f:Int) (ok:Bool) (v:Int) (w:World) (hs:s.size≤1000000) (hl:byt s=l) (hf:hmsField l=f) (h:(0≤f∧ok=true∧v=f)∨(f<0∧ok=false∧v=0)) :
 Calls Tryz.prog 280 #[.string s,.int .i64 59] w fun e w'=>e=.returned (.tuple #[.int .i64 v,.bool ok])∧w=w':=by
 subst hl hf
 refine (field s w hs).mono ?_
 rintro e w' ⟨rfl,rfl⟩
 refine ⟨?_,rfl⟩
 rcases h with ⟨h,rfl,rfl⟩ | ⟨h,rfl,rfl⟩
 ·rw [if_pos h,decide_eq_true h]
 ·rw [if_neg (by omega),decide_eq_false (by omega)]
theorem fields (s:ByteArray) (p:Nat) (a b:Int) (n:Nat) (w:World) (hs:s.size≤1000000) (hp0:w.cell? ⟨p,0,none⟩=some (.int .i64 59)) (hp1:w.cell? ⟨p,1,none⟩=some (.int .i64 59)) (hv:hmsVals (byt s)=(a,b,n)) :
 Calls Tryz.prog 263 #[.string s,.slice (some ⟨p,0,none⟩) 2 2] w fun e w'=>∃ g,e=.returned (.tuple #[.slice (some ⟨g,0,none⟩) 2 2,.int .i64 n])∧Ow w' w.heap.size 3 (some ⟨g,0,none⟩) 2 2 [.int .i64 a,.int .i64 b]∧Below w.heap.size w w':=by
 obtain ⟨f0,hf0⟩:∃ f,f=hmsField (byt s):=⟨_,rfl⟩
 obtain ⟨f1,hf1⟩:∃ f,f=hmsField ((byt s).drop 3):=⟨_,rfl⟩
 have b0:=hmsField_bd (byt s)
 have b1:=hmsField_bd ((byt s).drop 3)
 have e3:byt (s.extract 3 s.size)=(byt s).drop 3:=by rw [byt_extract,List.take_of_length_le (by rw [len_byt];omega)]
 have s3:(s.extract 3 s.size).size≤1000000:=by rw [← len_byt,e3,List.length_drop,len_byt];omega
 have F0:=hide (fun ok v w h=>field_ s _ f0 ok v w hs rfl hf0.symm h)
 have F1:=hide (fun ok v w h=>field_ (s.extract 3 s.size) _ f1 ok v w s3 e3 hf1.symm h)
 unfold hmsVals at hv
 rw [← hf0,← hf1] at hv
 rw [← hf0] at b0
 rw [← hf1] at b1
 have h3:0≤f0→3≤s.size:=fun h=>by rw [hf0] at h;have:=(field_len h).1;rw [len_byt] at this;exact this
 clear e3 hf0 hf1 s3
 have hlt:=cell_lt hp0
 have HB:=hide (fun (W:World) (h:Below w.heap.size w W)=>(⟨cellE h hp0,cellE h hp1⟩:W.cell? ⟨p,0,none⟩=some (.int .i64 59)∧W.cell? ⟨p,1,none⟩=some (.int .i64 59)))
 have hK:∃ K:Nat,(K=0∧f0<0∧a=0∧b=0∧n=0)∨(K=1∧0≤f0∧f1<0∧a=f0∧b=0∧n=3)∨(K=2∧0≤f0∧0≤f1∧a=f0∧b=f1∧n=6):=by
  by_cases h1:0≤f0
  ·by_cases h2:0≤f1
   ·rw [if_pos h1,if_pos h2] at hv
    simp only [Prod.mk.injEq] at hv
    exact ⟨2,.inr (.inr ⟨rfl,h1,h2,hv.1.symm,hv.2.1.symm,hv.2.2.symm⟩)⟩
   ·rw [if_pos h1,if_neg h2] at hv
    simp only [Prod.mk.injEq] at hv
    exact ⟨1,.inr (.inl ⟨rfl,h1,by omega,hv.1.symm,hv.2.1.symm,hv.2.2.symm⟩)⟩
  ·rw [if_neg h1] at hv
   simp only [Prod.mk.injEq] at hv
   exact ⟨0,.inl ⟨rfl,by omega,hv.1.symm,hv.2.1.symm,hv.2.2.symm⟩⟩
 clear hv hp0 hp1
 obtain ⟨K,hK⟩:=hK
 have hbK:∀ k,k≤K→k≤2:=fun k h=>by omega
 have HK:=hide hK
 have H3:=hide h3
 clear hK h3 hbK
 go_enter Tryz.func263,Tryz.ntmps263
 go_wp2_with (refine mk (n:=2) (k:=2) elInt (Below.refl w.heap.size _) (Nat.le_refl _) (Nat.le_refl _) rfl (.tmp 13) (.tmp 13) rfl .i64 .i64 _ _ rfl rfl rfl rfl (by omega) (by omega) (by simp [maxLen]) ?_;intro w1 ho hb)
 go_loopw [7,17] (fun sz i wr=>∃ (k:Nat) (y z:Int),k≤K∧k≤2∧i=.int .i64 y∧y=k∧sz=.int .i64 z∧z=3 * (k:Int)∧Ow wr w.heap.size 3 (some ⟨w.heap.size,0,none⟩) 2 2 [.int .i64 (if 1≤k then f0 else 0),.int .i64 (if 2≤k then f1 else 0)]∧Below w.heap.size w wr) (fun _ i _=>3 - (intOf i).toNat)
 case atStart=>exact ⟨0,0,0,by omega,by omega,rfl,rfl,rfl,rfl,ho,hb⟩
 case round =>
  clear ho hb
  obtain ⟨k,y,z,hkK,hk2,rfl,hy,rfl,hz,ho,hb⟩:=hrel
  obtain ⟨l0,l1⟩:=HB.out _ hb
  have hfr:=ho.frozen
  replace hb:=hide hb
  rcases (show k=0∨k=1∨k=2 by omega) with rfl | rfl | rfl
  ·obtain rfl:y=0:=by omega
   obtain rfl:z=0:=by omega
   clear hy hz
   by_cases hf:f0<0
   ·have hF:a=0∧b=0∧n=0:=by have:=HK.out;omega
    obtain ⟨rfl,rfl,rfl⟩:=hF
    replace ho:=hide ho
    go_wp2_with (go_at_call 280;with_reducible refine (F0.out _ _ _ (.inr ⟨hf,rfl,rfl⟩)).mono ?_;rintro e w3 ⟨rfl,rfl⟩)
    go_ret2
    exact ⟨_,rfl,ho.out,hb.out⟩
   ·have hset:=ho.set 0 (.int .i64 f0)
    have hl:=ho.cell 0 (by omega)
    replace ho:=hide ho
    replace hset:=hide hset
    go_wp2_with (go_at_call 280;with_reducible refine (F0.out _ _ _ (.inl ⟨by omega,rfl,rfl⟩)).mono ?_;rintro e w3 ⟨rfl,rfl⟩)
    go_roundw
    case rel=>exact ⟨1,1,3,by have:=HK.out;omega,by omega,by go_num,rfl,by go_num,rfl,hset.out,bl_set hb.out (Nat.le_refl _) _⟩
    case measure=>simp [intOf]
  ·obtain rfl:y=1:=by omega
   obtain rfl:z=3:=by omega
   clear hy hz
   have h0:0≤f0:=by have:=HK.out;omega
   have h3:=H3.out h0
   by_cases hf:f1<0
   ·have hF:a=f0∧b=0∧n=3:=by have:=HK.out;omega
    obtain ⟨rfl,rfl,rfl⟩:=hF
    replace ho:=hide ho
    go_wp2_with (go_at_call 280;with_reducible refine (F1.out _ _ _ (.inr ⟨hf,rfl,rfl⟩)).mono ?_;rintro e w3 ⟨rfl,rfl⟩)
    go_ret2
    exact ⟨_,rfl,ho.out,hb.out⟩
   ·have hset:=ho.set 1 (.int .i64 f1)
    have hl:=ho.cell 1 (by omega)
    replace ho:=hide ho
    replace hset:=hide hset
    go_wp2_with (go_at_call 280;with_reducible refine (F1.out _ _ _ (.inl ⟨by omega,rfl,rfl⟩)).mono ?_;rintro e w3 ⟨rfl,rfl⟩)
    go_roundw
    case rel=>exact ⟨2,2,6,by have:=HK.out;omega,by omega,by go_num,rfl,by go_num,rfl,hset.out,bl_set hb.out (Nat.le_refl _) _⟩
    case measure=>simp [intOf]
  ·obtain rfl:y=2:=by omega
   obtain rfl:z=6:=by omega
   clear hy hz
   have hF:a=f0∧b=f1∧n=6:=by have:=HK.out;omega
   obtain ⟨rfl,rfl,rfl⟩:=hF
   replace ho:=hide ho
   go_wp2_with fail
   go_ret2
   exact ⟨_,rfl,ho.out,hb.out⟩
theorem Parse_ (s:ByteArray) (st:Nat) (neg:Bool) (c0:Int) (w:World) (hs:s.size≤1000000) (hst:sgnH (byt s)=st) (hsz:st≤s.size) (hc:∀ h:0<s.size,((s[0]'h).toNat:Int)=c0) (hneg:(neg=true∧c0=45)∨(neg=false∧(c0 == 45)=false)) :
 Calls Tryz.prog 239 #[.string s] w fun e w'=>e=.returned (hmsRes ((hmsBody ((byt s).drop st)).map fun p=>(if neg then -p.1 else p.1,p.2+st)))∧Below w.heap.size w w':=by
 have S:=hide (fun w=>signSize s w hs)
 rw [hst] at S
 have hb:=hide (Below.refl w.heap.size w)
 have hl:=len_byt s
 obtain ⟨B,hB⟩:∃ B,B=(byt s).drop st:=⟨_,rfl⟩
 have hBl:B.length=s.size - st:=by rw [hB,List.length_drop,hl]
 rw [← hB]
 obtain ⟨D,hD⟩:∃ D,D=(B.takeWhile dig).length:=⟨_,rfl⟩
 have hDl:D≤B.length:=by rw [hD];exact tw_le _ _
 have xs:byt (s.extract st s.size)=B:=by rw [byt_extract,List.take_of_length_le (by omega),← hB]
 have zs:(s.extract st s.size).size≤1000000:=by rw [← len_byt,xs];omega
 have C:=hide (fun w=>countDigits (s.extract st s.size) w zs)
 rw [xs,← hD] at C
 obtain ⟨v,hv⟩:∃ v,v=dval (B.takeWhile dig):=⟨_,rfl⟩
 obtain ⟨r,hr⟩:∃ r,r=hmsRes ((hmsBody B).map fun p=>(if neg then -p.1 else p.1,p.2+st)):=⟨_,rfl⟩
 rw [← hr]
 unfold hmsBody at hr
 simp only at hr
 rw [← hD,← hv] at hr
 have hc0:=hide hc
 clear xs zs hst
 have t0:0≤(st:Int):=by omega
 have t1:(st:Int)≤s.size:=by omega
 rcases (show D=0∨3<D∨(1≤D∧D≤3) by omega) with d0 | d3 | ⟨d1,d3⟩
 ·rw [if_neg (by omega)] at hr
  subst d0
  replace hr:=hide hr
  clear hD hv hB hBl hDl hl hc
  go_enter Tryz.func239,Tryz.ntmps239
  go_wp2_with (first
   | (go_at_call 260;refine (S.out _).mono ?_;rintro e w3 ⟨rfl,rfl⟩)
   | (go_at_call 261;with_reducible refine (C.out _).mono ?_;rintro e w3 ⟨rfl,rfl⟩))
  go_ret3
  exact ⟨retV' (by rw [hr.out];rfl),hb.out⟩
 ·rw [if_neg (by omega)] at hr
  replace hr:=hide hr
  have d4:decide ((D:Int)<1)=false:=by simp;omega
  have d5:decide ((3:Int)<D)=true:=by simp;omega
  clear hD hv hB hBl hDl hl hc
  go_enter Tryz.func239,Tryz.ntmps239
  go_wp2_with (first
   | (go_at_call 260;refine (S.out _).mono ?_;rintro e w3 ⟨rfl,rfl⟩)
   | (go_at_call 261;with_reducible refine (C.out _).mono ?_;rintro e w3 ⟨rfl,rfl⟩))
  go_ret3
  exact ⟨retV' (by rw [hr.out];rfl),hb.out⟩
 have htk:B.take D=B.takeWhile dig:=by rw [hD,take_tw]
 obtain ⟨E,hE⟩:∃ E,E=st+D:=⟨_,rfl⟩
 have xn:byt (s.extract st E)=B.takeWhile dig:=by rw [byt_extract,← htk,hB,hE,List.drop_take];congr 1;omega
 have zn:(s.extract st E).size≤3:=by rw [← len_byt,xn,← hD];exact d3
 have hdg:∀ c ∈ B.takeWhile dig,dig c=true:=fun c h=>r8_.tw_all' h
 have N:=hide (fun w=>number (s.extract st E) w zn (by rw [xn];exact hdg))
 rw [xn,← hv] at N
 have hvb:=dval_bd D (B.takeWhile dig) (by omega) hdg d3
 rw [← hv] at hvb
 obtain ⟨v0,v1,_⟩:=hvb
 have hE':(st:Int)+(D:Int)=(E:Int):=by omega
 have eE:E≤s.size:=by omega
 have d4:decide ((D:Int)<1)=false:=by simp;omega
 have d5:decide ((3:Int)<D)=false:=by simp;omega
 have i1:(st:Int)≤E:=by omega
 have i2:(E:Int)≤s.size:=by omega
 have xf:byt (s.extract E s.size)=B.drop D:=by rw [byt_extract,List.take_of_length_le (by omega),hB,List.drop_drop,hE]
 have zf:(s.extract E s.size).size≤1000000:=by rw [← len_byt,xf,List.length_drop];omega
 have hpos:0<s.size:=by omega
 by_cases h167:167<v
 ·rw [if_neg (by omega)] at hr
  replace hr:=hide hr
  clear hD hv hB hBl hDl hl htk hE xn zn hdg xf zf hc
  go_enter Tryz.func239,Tryz.ntmps239
  go_wp2_with (first
   | (go_at_call 260;refine (S.out _).mono ?_;rintro e w3 ⟨rfl,rfl⟩)
   | (go_at_call 261;with_reducible refine (C.out _).mono ?_;rintro e w3 ⟨rfl,rfl⟩)
   | (go_at_call 262;with_reducible refine (N.out _).mono ?_;rintro e w3 ⟨rfl,rfl⟩))
  go_ret3
  exact ⟨retV' (by rw [hr.out];rfl),hb.out⟩
 ·obtain ⟨a,b,n,hvv⟩:∃ a b n,hmsVals (B.drop D)=(a,b,n):=⟨_,_,_,rfl⟩
  obtain ⟨htl,a0,a1,b0,b1,n6⟩:=tail_vals hvv
  rw [if_pos ⟨d1,d3,by omega⟩,htl] at hr
  have hr2:r=hmsRes (some (if neg then -(3600 * v+(60 * a+b)) else 3600 * v+(60 * a+b),D+n+st)):=hr
  have F:=hide (fun p w h h'=>fields (s.extract E s.size) p a b n w zf h h' (by rw [xf];exact hvv))
  replace hr2:=hide hr2
  replace hE':=hide hE'
  have hcv:=hc hpos
  have v167:decide (167<v)=false:=by simp;omega
  clear hD hv hB hBl hDl hl htk hE xn zn hdg xf zf hvv htl hc hc0 hr
  have hE2:=hE'.out
  rcases hneg with ⟨rfl,rfl⟩ | ⟨rfl,hne⟩
  all_goals
   go_enter Tryz.func239,Tryz.ntmps239
   go_wp2_with (first
    | (go_at_call 260;refine (S.out _).mono ?_;rintro e w3 ⟨rfl,rfl⟩)
    | (go_at_call 261;with_reducible refine (C.out _).mono ?_;rintro e w3 ⟨rfl,rfl⟩)
    | (go_at_call 262;with_reducible refine (N.out _).mono ?_;rintro e w3 ⟨rfl,rfl⟩))
   refine (F.out _ _ (by simp) (by simp)).mono ?_
   rintro e w1 ⟨g,rfl,ho,h1⟩
   replace hb:=hide (bel_next (bl_alloc hb.out _) h1)
   have c0:w1.cell? ⟨g,0,none⟩=some (.int .i64 a):=ho.cell 0 (by omega)
   have c1:w1.cell? ⟨g,1,none⟩=some (.int .i64 b):=ho.cell 1 (by omega)
   have q1:IntKind.i64.wrap (v * 3600)=v * 3600:=by rw [IntKind.wrap_i64];omega
   have q2:IntKind.i64.wrap (a * 60)=a * 60:=by rw [IntKind.wrap_i64];omega
   have q3:IntKind.i64.wrap (v * 3600+a * 60)=v * 3600+a * 60:=by rw [IntKind.wrap_i64];omega
   have q4:IntKind.i64.wrap (v * 3600+a * 60+b)=v * 3600+a * 60+b:=by rw [IntKind.wrap_i64];omega
   clear h1 ho
   go_wp2_with fail
   go_region
   go_wp2
   go_ret3
   exact ⟨r8_.hres hr2.out (by simp <;> omega) (by have:=hE'.out;omega),bl_drew hb.out⟩
theorem Parse (s:ByteArray) (w:World) (hs:s.size≤1000000):Calls Tryz.prog 239 #[.string s] w fun e w'=>e=.returned (hmsRes (hmsParse (byt s)))∧Below w.heap.size w w':=by
 cases h:byt s with
 | nil =>
   have h0:s.size=0:=by rw [← len_byt,h];rfl
   have:=Parse_ s 0 false 0 w hs (by rw [h];rfl) (by omega) (fun q=>by omega) (.inr ⟨rfl,rfl⟩)
   rw [h] at this
   exact this
 | cons c t =>
   obtain ⟨hi,hc,_⟩:=drop_cons (s:=s) (i:=0) (c:=c) (t:=t) (by rw [h];rfl)
   have hc':∀ q:0<s.size,((s[0]'q).toNat:Int)=(c.toNat:Int):=fun q=>by rw [hc]
   unfold hmsParse
   by_cases h43:(c.toNat:Int)=43
   ·have:=Parse_ s 1 false c.toNat w hs (by rw [h];show (if _ then 1 else 0)=1;rw [if_pos (.inl h43)]) (by omega) hc' (.inr ⟨rfl,by rw [h43];rfl⟩)
    rw [h] at this
    simp only [if_pos h43]
    exact this
   ·by_cases h45:(c.toNat:Int)=45
    ·have:=Parse_ s 1 true c.toNat w hs (by rw [h];show (if _ then 1 else 0)=1;rw [if_pos (.inr h45)]) (by omega) hc' (.inl ⟨rfl,h45⟩)
     rw [h] at this
     simp only [if_neg h43,if_pos h45]
     exact this
    ·have:=Parse_ s 0 false c.toNat w hs (by rw [h];show (if _ then 1 else 0)=0;rw [if_neg (by omega)]) (by omega) hc' (.inr ⟨rfl,by simpa using h45⟩)
     rw [h] at this
     simp only [if_neg h43,if_neg h45]
     rw [show ((c :: t).drop 0)=c :: t from rfl] at this
     rw [show (hmsBody (c :: t))=(hmsBody (c :: t)).map (fun p=>(if false=true then -p.1 else p.1,p.2+0)) by cases hmsBody (c :: t) <;> rfl]
     exact this
end hm_
theorem idx62 (l:List UInt8):Lib.indexByte l 62=if (l.takeWhile not62).length<l.length then ((l.takeWhile not62).length:Int) else -1:=by
 induction l with
 | nil=>rfl
 | cons b l ih =>
   unfold Lib.indexByte
   by_cases hb:b=62
   ·subst hb
    have:not62 62=false:=by decide
    rw [List.takeWhile_cons_of_neg (by simp [this])]
    simp
   ·have hn:not62 b=true:=by
     unfold not62
     simp only [decide_eq_true_eq]
     intro h
     apply hb
     apply UInt8.toNat_inj.1
     have:(62:UInt8).toNat=62:=rfl
     omega
    have hb':(b == 62)=false:=by simpa using hb
    rw [List.takeWhile_cons_of_pos hn,hb',ih]
    have:=tw_le not62 l
    by_cases h:(l.takeWhile not62).length<l.length
    ·simp [h]
     try (intro h;omega)
    ·simp [h]
namespace go_
theorem Clone_ (s:ByteArray) (w:World) (hlim:s.size≤281474976710656):Calls Tryz.prog 273 #[.string s] w fun e w'=>e=.returned (.string s)∧Below w.heap.size w w':=by
 by_cases h0:s.size=0
 ·have hs:s=⟨#[]⟩:=by
   apply ByteArray.ext
   exact Array.eq_empty_of_size_eq_zero h0
  subst hs
  go_enter Tryz.func273,Tryz.ntmps273
  go_wp2
  go_ret
  exact ⟨rfl,Below.refl _ _⟩
 ·have E:ElT Tryz.prog 22 5 (.int .u8 0) 1:=⟨Tryz.underlying22,by kernel_rfl,rfl⟩
  obtain ⟨i0,hi,hz0,hz1,hz2⟩:=info_parts E.2.1
  have hinfo:(Tryz.prog.info? 5).map (·.size)=some 1:=by rw [hi];simp [hz1]
  have hco:Tryz.prog.cellsOf 5=1:=by simp [Program.cellsOf,hi,hz1]
  obtain ⟨M,hM⟩:∃ M,M=madeCells (Value.int .u8 0).cells (((s.size:Nat):Int).toNat * i0.size):=⟨_,rfl⟩
  have hMs:M.size=s.size:=by rw [hM,size_madeCells,hz1];simp
  have hmk:∀ W:World,(Instr.makeSlice 22 (.int .i64 (s.size:Int)) (.int .i64 (s.size:Int))).run Tryz.prog W=.ok (.slice (some ⟨W.heap.size,0,none⟩) s.size s.size) (W.alloc (.cells M 5)):=fun W=>by
   have h:=run_make (P:=Tryz.prog) W 22 5 i0 (.int .u8 0) E.1 hi hz0 .i64 .i64 (s.size:Int) (s.size:Int) (by omega) (by omega) (by rw [hz2];omega) (by omega)
   rw [← hM] at h
   simpa using h
  clear hM
  have hcp:=Lib.run_copy_row_string (P:=Tryz.prog) (w.alloc (.cells M 5)) 22 9 3 5 w.heap.size 0 s.size s.size s M 5 E.1 hinfo (heap_alloc_new w _) (Nat.le_refl _) (by omega)
  obtain ⟨Y,hY⟩:∃ Y,Y=(M.toList.take 0++Lib.byteCells s.data.toList++M.toList.drop (0+s.size)).toArray:=⟨_,rfl⟩
  rw [← hY] at hcp
  have hYl:Y.toList=Lib.byteCells s.data.toList:=by
   rw [hY,List.toList_toArray,List.take_zero,List.nil_append,List.drop_of_length_le (by rw [Array.length_toList];omega),List.append_nil]
  have hYs:Y.size=s.size:=by rw [← Array.length_toList,hYl,Lib.byteCells_length,← Lib.size_eq]
  have hgY:((w.alloc (.cells M 5)).setRow w.heap.size Y).heap[w.heap.size]?=some (.cells Y 5 (0,0)):=setRow_heap _ _ M _ 5 (0,0) (heap_alloc_new w _)
  have hne:s.data.toList≠[]:=fun e=>h0 (by rw [Lib.size_eq,e];rfl)
  have hUS:=Lib.run_unsafeString_row (P:=Tryz.prog) ((w.alloc (.cells M 5)).setRow w.heap.size Y) 324 3 9 5 Tryz.underlying324 hco w.heap.size Y.size (by unfold World.shape?;rw [hgY]) s.data.toList hne (by rw [← Lib.size_eq];omega) (by rw [← Lib.size_eq];omega)
   (fun j x hx=>Lib.cells_of_row hgY Y.size j _ (by rw [List.take_of_length_le (by rw [Array.length_toList];exact Nat.le_refl _),hYl];simp [Lib.byteCells,hx]))
  rw [← Lib.size_eq] at hUS
  clear hY
  go_enter Tryz.func273,Tryz.ntmps273
  go_wp2
  go_ret
  have hb1:Below w.heap.size w (w.alloc (.cells M 5)):=(Below.refl _ w).alloc (Nat.le_refl _) _
  have hb2:Below w.heap.size (w.alloc (.cells M 5)) ((w.alloc (.cells M 5)).setRow w.heap.size Y):=⟨rfl,rfl,rfl,by simp,fun k hk=>setRow_other _ _ _ _ (by omega)⟩
  exact ⟨rfl,Lib.below_freeze (hb1.trans hb2) (p:=⟨w.heap.size,0,none⟩) (Nat.le_refl _) _⟩
theorem Clone (s:ByteArray) (w:World) (hlim:s.size≤281474976710656):Calls Tryz.prog 247 #[.string s] w fun e w'=>e=.returned (.string s)∧Below w.heap.size w w':=by
 have C:=hide (fun w=>Clone_ s w hlim)
 go_enter Tryz.func247,Tryz.ntmps247
 go_wp2_with (go_at_call 273;refine (C.out _).mono ?_;rintro e w' ⟨rfl,h1⟩)
 go_ret
 exact ⟨rfl,h1⟩
theorem CutLt (s:ByteArray) (w:World) (hs:s.size≤1000000):Calls Tryz.prog 275 #[.string s,.string ⟨#[60]⟩] w fun e w'=>w=w'∧((∃ t,byt s=60 :: t∧e=.returned (.tuple #[.string (mkS t),.bool true]))∨((byt s).head?≠some 60∧e=.returned (.tuple #[.string s,.bool false]))):=by
 by_cases h0:0<s.size
 ·have i1:(1:Int)≤(s.size:Int):=by omega
  have hx:s.extract 0 1=⟨#[s[0]]⟩:=by
   apply byt_inj.1
   rw [byt_extract]
   cases hb:byt s with
   | nil=>rw [← len_byt,hb] at h0;simp at h0
   | cons a t =>
     have:=get_byt s 0 h0
     simp [hb] at this
     simp [byt,this]
  by_cases h1:s[0]=60
  ·have q1:((s.extract 0 1).toList == (⟨#[60]⟩:ByteArray).toList)=true:=seq_eq (by rw [hx,h1])
   go_enter Tryz.func275,Tryz.ntmps275
   go_wp2
   go_ret2
   refine ⟨rfl,.inl ?_⟩
   cases hb:byt s with
   | nil=>rw [← len_byt,hb] at h0;simp at h0
   | cons a t =>
     have:=get_byt s 0 h0
     simp [hb] at this
     have ht:mkS t=s.extract 1 s.size:=by
      apply byt_inj.1
      rw [byt_mk,byt_extract,hb]
      have:s.size=t.length+1:=by rw [← len_byt,hb];rfl
      rw [this]
      simp
     exact ⟨t,by rw [this,h1],by rw [ht];rfl⟩
  ·have q1:((s.extract 0 1).toList == (⟨#[60]⟩:ByteArray).toList)=false:=seq_ne (by rw [hx];intro e;apply h1;simpa using e)
   have q2:(s[0] == 60)=false:=by simpa using h1
   go_enter Tryz.func275,Tryz.ntmps275
   go_wp2
   go_ret2
   refine ⟨rfl,.inr ⟨?_,rfl⟩⟩
   cases hb:byt s with
   | nil=>simp
   | cons a t =>
     have:=get_byt s 0 h0
     simp [hb] at this
     simp [this,h1]
 ·have e:s=⟨#[]⟩:=by
   apply ByteArray.ext
   exact Array.eq_empty_of_size_eq_zero (by show s.size=0;omega)
  subst e
  go_enter Tryz.func275,Tryz.ntmps275
  go_wp2
  go_ret2
  exact ⟨rfl,.inr ⟨by simp [byt],rfl⟩⟩
theorem IndexByte_ (s:ByteArray) (c:Int) (w:World):Calls Tryz.prog 305 #[.string s,.int .u8 c] w fun e w'=>e=.returned (.int .i64 (Lib.indexByte (byt s) c.toNat.toUInt8))∧w=w':=by
 go_enter Tryz.func305,Tryz.ntmps305
 go_wp2
 rw [run_callFunc_extern Tryz.func318 (by kernel_rfl) (by kernel_rfl) (by kernel_rfl) (e:=Extern.BytealgIndexByte.indexByte) (by kernel_rfl),Lib.run_indexByteString]
 simp only [Result.andThen]
 rw [Oper.upon_value]
 go_wp2
 go_ret
 exact ⟨rfl,rfl⟩
theorem Index62 (s:ByteArray) (w:World) (hs:s.size≤1000000):Calls Tryz.prog 296 #[.string s,.string ⟨#[62]⟩] w fun e w'=>e=.returned (.int .i64 (Lib.indexByte (byt s) 62))∧w=w':=by
 have C:=hide (fun w=>IndexByte_ s 62 w)
 by_cases h:s=⟨#[62]⟩
 ·have h':=hide h
  have q1:([62] == s.toList)=true:=by rw [h,ByteArray.toList_eq];rfl
  clear h
  go_enter Tryz.func296,Tryz.ntmps296
  go_wp2
  go_ret
  exact ⟨reti (by rw [h'.out];rfl),rfl⟩
 ·have q1:([62] == s.toList)=false:=by
   rw [ByteArray.toList_eq,beq_eq_false_iff_ne]
   intro e
   apply h
   apply byt_inj.1
   exact e.symm
  clear h
  go_enter Tryz.func296,Tryz.ntmps296
  go_wp2_with (go_at_call 305;refine (C.out _).mono ?_;rintro e w' ⟨rfl,rfl⟩)
  go_ret
  exact ⟨rfl,rfl⟩
theorem CutGt_ (s:ByteArray) (w:World) (hs:s.size≤1000000):Calls Tryz.prog 288 #[.string s,.string ⟨#[62]⟩] w fun e w'=>Below w.heap.size w w'∧((((byt s).takeWhile not62).length<s.size∧∃ r,e=.returned (.tuple #[.string (mkS ((byt s).takeWhile not62)),.string r,.bool true]))∨(¬ ((byt s).takeWhile not62).length<s.size∧∃ a r,e=.returned (.tuple #[.string a,.string r,.bool false]))):=by
 have I:=hide (fun w=>Index62 s w hs)
 rw [idx62,len_byt] at I
 have hme:mkS ((byt s).takeWhile not62)=s.extract 0 ((byt s).takeWhile not62).length:=by
  apply byt_inj.1
  rw [byt_mk,byt_extract]
  simp
  exact (take_tw _).symm
 have Hme:=hide hme
 clear hme
 have hqq:=hide (rfl:((byt s).takeWhile not62).length=((byt s).takeWhile not62).length)
 by_cases h:((byt s).takeWhile not62).length<s.size
 ·rw [if_pos h] at I
  obtain ⟨q,hq⟩:∃ q,((byt s).takeWhile not62).length=q:=⟨_,rfl⟩
  rw [hq] at I Hme h
  generalize (byt s).takeWhile not62=u at *
  replace hq:=hide hq
  clear hqq
  have i1:(q:Int)≤(s.size:Int):=by omega
  have i2:(q:Int)+1≤(s.size:Int):=by omega
  have i3:(0:Int)≤(q:Int)+1:=by omega
  have e1:IntKind.i64.wrap ((q:Int)+1)=(q:Int)+1:=by rw [IntKind.wrap_i64];omega
  go_enter Tryz.func288,Tryz.ntmps288
  go_wp2_with ((go_at_call 296;refine (I.out _).mono ?_;rintro e w' ⟨rfl,rfl⟩) )
  go_quiet (fail)
  go_wp2
  go_ret3
  exact ⟨bel_drewN (bl_refl _) _,.inl ⟨by rw [hq.out];exact h,_,by rw [Hme.out];rfl⟩⟩
 ·rw [if_neg h] at I
  have h':=hide h
  clear h
  generalize (byt s).takeWhile not62=u at *
  go_enter Tryz.func288,Tryz.ntmps288
  go_wp2_with ((go_at_call 296;refine (I.out _).mono ?_;rintro e w' ⟨rfl,rfl⟩) )
  go_ret3
  exact ⟨bl_refl _,.inr ⟨h'.out,_,_,rfl⟩⟩
theorem CutGt (s:ByteArray) (w:World) (hs:s.size≤1000000):Calls Tryz.prog 278 #[.string s,.string ⟨#[62]⟩] w fun e w'=>Below w.heap.size w w'∧((((byt s).takeWhile not62).length<s.size∧∃ r,e=.returned (.tuple #[.string (mkS ((byt s).takeWhile not62)),.string r,.bool true]))∨(¬ ((byt s).takeWhile not62).length<s.size∧∃ a r,e=.returned (.tuple #[.string a,.string r,.bool false]))):=by
 have C:=hide (fun w=>CutGt_ s w hs)
 go_enter Tryz.func278,Tryz.ntmps278
 go_wp2_with (go_at_call 288;refine (C.out _).mono ?_;rintro e w' ⟨h1,(⟨h2,r,rfl⟩ | ⟨h2,a,r,rfl⟩)⟩)
 ·go_ret3
  exact ⟨h1,.inl ⟨h2,r,rfl⟩⟩
 ·go_ret3
  exact ⟨h1,.inr ⟨h2,a,r,rfl⟩⟩
end go_
theorem alphaI_hi (x:Int) (h:128≤x):alphaI x=false:=by unfold alphaI;simp;omega
theorem nameI_hi (x:Int) (h:128≤x):nameI x=false:=by unfold nameI;rw [alphaI_hi x h];simp;omega
def unw (l:List UInt8):List UInt8 × Nat :=
 match l with
 | []=>([],0)
 | a :: t=>if a.toNat=60 then (if (t.takeWhile not62).length<t.length then (t.takeWhile not62,(t.takeWhile not62).length+2) else ([],0)) else (l.takeWhile alpha,letters l)
theorem unw_parse (l:List UInt8):tnParse l=if nameOk (unw l).1 then some (unw l) else none:=by
 cases l with
 | nil=>rfl
 | cons a t =>
   unfold tnParse unw
   by_cases ha:a.toNat=60
   ·simp only [if_pos ha]
    by_cases hq:(t.takeWhile not62).length<t.length
    ·simp only [hq,true_and,if_true]
    ·simp only [hq,false_and,if_false]
     rfl
   ·simp only [if_neg ha]
    rfl
theorem unw_le (l:List UInt8):(unw l).1.length≤l.length∧(unw l).2≤l.length+1:=by
 cases l with
 | nil=>simp [unw]
 | cons a t =>
   have h1:=tw_le not62 t
   have h2:=tw_le alpha (a :: t)
   have e:unw (a :: t)=if a.toNat=60 then (if (t.takeWhile not62).length<t.length then (t.takeWhile not62,(t.takeWhile not62).length+2) else ([],0)) else ((a :: t).takeWhile alpha,letters (a :: t)):=rfl
   rw [e]
   clear e
   unfold letters
   generalize (a :: t).takeWhile alpha=z at *
   simp only [List.length_cons] at *
   by_cases ha:a.toNat=60
   ·rw [if_pos ha]
    by_cases hq:(t.takeWhile not62).length<t.length
    ·rw [if_pos hq];exact ⟨by show (t.takeWhile not62).length≤_;omega,by show (t.takeWhile not62).length+2≤_;omega⟩
    ·rw [if_neg hq];exact ⟨Nat.zero_le _,Nat.zero_le _⟩
   ·rw [if_neg ha];exact ⟨h2,by show z.length≤_;omega⟩
theorem enters {P:Program} {f:FuncId} {fn:Func} (hf:P.funcs[f]?=some fn) (hname:(fn.name == "runtime.NumGoroutine")=false) (hb:fn.body.isSome=true) (args:Array Value) (w:World):(callFunc f args).run P w=.ok (.enter f args) w:=by
 have h1:fn.name≠"runtime.NumGoroutine":=by simpa using hname
 obtain ⟨c,hc⟩:=Option.isSome_iff_exists.1 hb
 simp [callFunc,hf,h1,hc]
namespace tn_
theorem IsAlpha_ (x:Int) (w:World) (h0:0≤x) (h1:x<256):Calls Tryz.prog 277 #[.int .u8 x] w fun e w'=>e=.returned (.bool (alphaI x))∧w=w':=by
 by_cases h1:65≤x
 all_goals by_cases h2:x≤90
 all_goals by_cases h3:97≤x
 all_goals
  go_enter Tryz.func277,Tryz.ntmps277
  go_wp2
  go_ret
  exact ⟨retb (by unfold alphaI;simp [h1,h2,h3] <;> omega),rfl⟩
theorem isNameByte_ (x:Int) (w:World) (h0:0≤x) (h1:x<256):Calls Tryz.prog 279 #[.int .u8 x] w fun e w'=>e=.returned (.bool (nameI x))∧w=w':=by
 have C:=hide (fun w=>IsAlpha_ x w h0 h1)
 obtain ⟨r,hr⟩:∃ r,r=nameI x:=⟨_,rfl⟩
 rw [← hr]
 unfold nameI at hr
 obtain ⟨a,ha⟩:∃ a,a=alphaI x:=⟨_,rfl⟩
 rw [← ha] at C hr
 clear ha
 replace hr:=hide hr
 cases a
 ·by_cases h2:48≤x
  all_goals by_cases h3:x≤57
  all_goals rcases (show x=43∨x=45∨((x == 43)=false∧(x == 45)=false) by by_cases a:x=43 <;> by_cases b:x=45 <;> simp [a,b]) with rfl | rfl | ⟨h4,h5⟩
  all_goals first
   | omega
   | (go_enter Tryz.func279,Tryz.ntmps279
      go_wp2_with (go_at_call 277;refine (C.out _).mono ?_;rintro e w' ⟨rfl,rfl⟩)
      go_ret
      exact ⟨retb (by rw [hr.out,Bool.eq_iff_iff];(try rw [beq_eq_false_iff_ne] at h4 h5);simp;try omega),rfl⟩)
 ·go_enter Tryz.func279,Tryz.ntmps279
  go_wp2_with (go_at_call 277;refine (C.out _).mono ?_;rintro e w' ⟨rfl,rfl⟩)
  go_ret
  exact ⟨retb (by rw [hr.out];simp),rfl⟩
theorem span_ (F:FuncId) (f:Int→Bool) (p:UInt8→Bool) (hp:∀ c:UInt8,p c=f c.toNat) (hf:∀ x,128≤x→f x=false) (hC:∀ args w,(callFunc F args).run Tryz.prog w=.ok (.enter F args) w) (hF:∀ x w,0≤x→x<256→Calls Tryz.prog F #[.int .u8 x] w fun e w'=>e=.returned (.bool (f x))∧w=w')
 (s:ByteArray) (w:World) (hs:s.size≤maxLen):Calls Tryz.prog 276 #[.string s,.func (.func F) #[] #[]] w fun e w'=>e=.returned (.int .i64 ((byt s).takeWhile p).length)∧Below w.heap.size w w':=by
 obtain ⟨n,hn,hle,hin,hout⟩:=pre_facts p s
 have L:=hide hF
 have E:=hide hC
 have H:=hide hf
 rw [hn]
 have hin':=hide (fun k (h:k<s.size) (hk:k<n)=>(hp s[k]).symm.trans (hin k h hk))
 have hout':=hide (fun h:n<s.size=>(hp s[n]).symm.trans (hout h))
 clear hn hin hout hp hF hf hC
 go_enter Tryz.func276,Tryz.ntmps276
 go_wp2_with fail
 go_loopw [5] (fun iv wr=>∃ k:Nat,k≤n∧wr=w.iter s k) (fun _ wr=>s.size - wr.iterPos w.heap.size)
 case atStart=>exact ⟨0,by omega,rfl⟩
 case round =>
  obtain ⟨k,hk,rfl⟩:=hrel
  by_cases hks:k<s.size
  ·have hnx:=fun ty=>next_in (P:=Tryz.prog) w s k ty hks
   have hc:=(s[k]).toNat_lt
   obtain ⟨e1,e2⟩:=rn_test H.out hks
   by_cases hlt:k<n
   ·have hi:f (s[k].toNat:Int)=true:=hin'.out k hks hlt
    rw [e2 hi] at hnx
    obtain ⟨x,hx⟩:∃ x:Int,(s[k].toNat:Int)=x:=⟨_,rfl⟩
    rw [hx] at hi
    have Lr:=hide (fun w=>L.out x w (by omega) (by omega))
    rw [hi] at Lr
    generalize rn s k=r at *
    clear e1 e2 hi hc
    go_wp2_with fail
    rw [E.out,Oper.upon_enter]
    refine (Lr.out _).mono ?_
    rintro e w' ⟨rfl,rfl⟩
    go_wp2_with fail
    go_roundw
    case rel=>exact ⟨k+1,by omega,rfl⟩
    case measure=>simp;omega
   ·obtain rfl:k=n:=by omega
    have hi:f (s[k].toNat:Int)=false:=hout'.out hks
    obtain ⟨x,hx⟩:∃ x:Int,(s[k].toNat:Int)=x:=⟨_,rfl⟩
    rw [hx] at hi
    have Lr:=hide (fun w=>L.out x w (by omega) (by omega))
    rw [hi] at Lr
    generalize rn s k=r at *
    generalize rw_ s k=y at *
    clear e1 e2 hi hc
    go_wp2_with fail
    rw [E.out,Oper.upon_enter]
    refine (Lr.out _).mono ?_
    rintro e w' ⟨rfl,rfl⟩
    go_wp2_with fail
    go_ret
    exact ⟨rfl,iter_below _ _ _⟩
  ·obtain rfl:k=n:=by omega
   have hnx:=fun ty=>run_next_end (P:=Tryz.prog) w s k ty hks
   go_wp2_with fail
   go_ret
   exact ⟨reti (by omega),iter_below _ _ _⟩
theorem spanA (s:ByteArray) (w:World) (hs:s.size≤maxLen):Calls Tryz.prog 276 #[.string s,.func (.func 277) #[] #[]] w fun e w'=>e=.returned (.int .i64 (letters (byt s)))∧Below w.heap.size w w' :=
 span_ 277 alphaI alpha (fun _=>rfl) alphaI_hi (enters Tryz.func277 (by kernel_rfl) (by kernel_rfl)) IsAlpha_ s w hs
theorem spanN (s:ByteArray) (w:World) (hs:s.size≤maxLen):Calls Tryz.prog 276 #[.string s,.func (.func 279) #[] #[]] w fun e w'=>e=.returned (.int .i64 ((byt s).takeWhile nameB).length)∧Below w.heap.size w w' :=
 span_ 279 nameI nameB (fun _=>rfl) nameI_hi (enters Tryz.func279 (by kernel_rfl) (by kernel_rfl)) isNameByte_ s w hs
theorem Valid (s:ByteArray) (w:World) (hs:s.size≤1000000):Calls Tryz.prog 259 #[.string s] w fun e w'=>e=.returned (.bool (nameOk (byt s)))∧Below w.heap.size w w':=by
 have C:=hide (fun w=>spanN s w (by unfold maxLen;omega))
 have hr:=hide (show nameOk (byt s)=(decide (3≤s.size) && decide (s.size≤255) && decide (((byt s).takeWhile nameB).length=s.size)) by
  unfold nameOk
  rw [all_tw,len_byt])
 generalize nameOk (byt s)=r at *
 generalize ((byt s).takeWhile nameB).length=q at *
 by_cases h1:3≤s.size
 ·have i1:(3:Int)≤(s.size:Int):=by omega
  by_cases h2:s.size≤255
  ·have i2:(s.size:Int)≤255:=by omega
   go_enter Tryz.func259,Tryz.ntmps259
   go_wp2_with (go_at_call 276;refine (C.out _).mono ?_;rintro e w' ⟨rfl,h3⟩)
   all_goals go_ret
   all_goals exact ⟨retb (by rw [hr.out,Bool.eq_iff_iff];simp;omega),h3⟩
  ·have i2:¬ (s.size:Int)≤255:=by omega
   go_enter Tryz.func259,Tryz.ntmps259
   go_wp2_with fail
   go_ret
   exact ⟨retb (by rw [hr.out];simp [h2]),bl_refl _⟩
 ·have i1:¬ (3:Int)≤(s.size:Int):=by omega
  go_enter Tryz.func259,Tryz.ntmps259
  go_wp2_with fail
  go_ret
  exact ⟨retb (by rw [hr.out];simp [h1]),bl_refl _⟩
theorem unwrap_ (s:ByteArray) (w:World) (hs:s.size≤1000000):Calls Tryz.prog 258 #[.string s] w fun e w'=>e=.returned (.tuple #[.string (mkS (unw (byt s)).1),.int .i64 (unw (byt s)).2])∧Below w.heap.size w w':=by
 have A:=hide (fun w=>go_.CutLt s w hs)
 by_cases h:(byt s).head?=some 60
 ·obtain ⟨t,ht⟩:∃ t,byt s=60 :: t:=by
   cases hb:byt s with
   | nil=>rw [hb] at h;cases h
   | cons a t=>rw [hb] at h;simp at h;exact ⟨t,by rw [h]⟩
  have hl:(mkS t).size=t.length:=size_mk t
  have hlen:s.size=t.length+1:=by rw [← len_byt,ht];rfl
  have B:=hide (fun w=>go_.CutGt (mkS t) w (by omega))
  rw [byt_mk,hl] at B
  have hu:unw (byt s)=if (t.takeWhile not62).length<t.length then (t.takeWhile not62,(t.takeWhile not62).length+2) else ([],0):=by rw [ht];rfl
  rw [hu]
  have hql:=tw_le not62 t
  have A':∀ w,Calls Tryz.prog 275 #[.string s,.string ⟨#[60]⟩] w fun e w'=>w=w'∧e=.returned (.tuple #[.string (mkS t),.bool true]):=fun w=>(A.out w).mono fun e w' hh=>⟨hh.1,by
   rcases hh.2 with ⟨t',h1,h2⟩ | ⟨h1,h2⟩
   ·rw [ht] at h1;cases h1;exact h2
   ·exact absurd h h1⟩
  replace A':=hide A'
  clear A hl h hu ht
  have hsz:(mkS (t.takeWhile not62)).size=(t.takeWhile not62).length:=size_mk _
  generalize t.takeWhile not62=u at *
  obtain ⟨q,hq⟩:∃ q,u.length=q:=⟨_,rfl⟩
  rw [hq] at B hql hsz ⊢
  replace hq:=hide hq
  have e1:IntKind.i64.wrap (1+(q:Int))=1+(q:Int):=by rw [IntKind.wrap_i64];omega
  have e2:IntKind.i64.wrap (1+(q:Int)+1)=1+(q:Int)+1:=by rw [IntKind.wrap_i64];omega
  by_cases hq:q<t.length
  ·have B':∀ w,Calls Tryz.prog 278 #[.string (mkS t),.string ⟨#[62]⟩] w fun e w'=>Below w.heap.size w w'∧∃ r,e=.returned (.tuple #[.string (mkS u),.string r,.bool true]):=fun w=>(B.out w).mono fun e w' hh=>⟨hh.1,by
    rcases hh.2 with ⟨_,h2⟩ | ⟨h1,_⟩
    ·exact h2
    ·exact absurd hq h1⟩
   replace B':=hide B'
   clear B
   rw [if_pos hq]
   replace hq:=hide hq
   go_enter Tryz.func258,Tryz.ntmps258
   go_wp2_with (first
    | (go_at_call 275;refine (A'.out _).mono ?_;rintro e w' ⟨rfl,rfl⟩)
    | (go_at_call 278;refine (B'.out _).mono ?_;rintro e w2 ⟨h4,r,rfl⟩))
   go_ret2
   exact ⟨retV (by show _=Value.tuple #[_,.int .i64 ((q+2:Nat):Int)];rw [show ((q+2:Nat):Int)=1+(q:Int)+1 by omega];rfl),h4⟩
  ·have B':∀ w,Calls Tryz.prog 278 #[.string (mkS t),.string ⟨#[62]⟩] w fun e w'=>Below w.heap.size w w'∧∃ a r,e=.returned (.tuple #[.string a,.string r,.bool false]):=fun w=>(B.out w).mono fun e w' hh=>⟨hh.1,by
    rcases hh.2 with ⟨h1,_⟩ | ⟨_,h2⟩
    ·exact absurd h1 hq
    ·exact h2⟩
   replace B':=hide B'
   clear B
   rw [if_neg hq]
   replace hq:=hide hq
   go_enter Tryz.func258,Tryz.ntmps258
   go_wp2_with (first
    | (go_at_call 275;refine (A'.out _).mono ?_;rintro e w' ⟨rfl,rfl⟩)
    | (go_at_call 278;refine (B'.out _).mono ?_;rintro e w2 ⟨h4,a,r,rfl⟩))
   go_ret2
   exact ⟨rfl,h4⟩
 ·have A':∀ w,Calls Tryz.prog 275 #[.string s,.string ⟨#[60]⟩] w fun e w'=>w=w'∧e=.returned (.tuple #[.string s,.bool false]):=fun w=>(A.out w).mono fun e w' hh=>⟨hh.1,by
   rcases hh.2 with ⟨t',h1,h2⟩ | ⟨h1,h2⟩
   ·rw [h1] at h;simp at h
   ·exact h2⟩
  replace A':=hide A'
  have L:=hide (fun w=>spanA s w (by unfold maxLen;omega))
  have hu:unw (byt s)=((byt s).takeWhile alpha,letters (byt s)):=by
   cases hb:byt s with
   | nil=>rfl
   | cons a t =>
     rw [hb] at h
     have ha:¬ a.toNat=60:=by
      intro h60
      apply h
      simp
      exact UInt8.toNat_inj.1 h60
     simp only [unw,if_neg ha]
  have hql:letters (byt s)≤s.size:=by have:=tw_le alpha (byt s);rw [len_byt] at this;exact this
  have hme:mkS ((byt s).takeWhile alpha)=s.extract 0 (letters (byt s)):=by
   apply byt_inj.1
   rw [byt_mk,byt_extract]
   simp
   exact (take_tw _).symm
  rw [hu]
  simp only [hme]
  generalize letters (byt s)=q at *
  clear A h hu hme
  have i2:(q:Int)≤(s.size:Int):=by omega
  go_enter Tryz.func258,Tryz.ntmps258
  go_wp2_with (first
   | (go_at_call 275;refine (A'.out _).mono ?_;rintro e w' ⟨rfl,rfl⟩)
   | (go_at_call 276;refine (L.out _).mono ?_;rintro e w2 ⟨rfl,h4⟩))
  go_ret2
  exact ⟨rfl,h4⟩
theorem Parse (s:ByteArray) (w:World) (hs:s.size≤1000000):Calls Tryz.prog 238 #[.string s] w fun e w'=>e=.returned (tnRes (tnParse (byt s)))∧Below w.heap.size w w':=by
 have U:=hide (fun w=>unwrap_ s w hs)
 have hle:=unw_le (byt s)
 rw [len_byt] at hle
 rw [unw_parse]
 generalize unw (byt s)=p at *
 obtain ⟨u,n⟩:=p
 simp only at U hle ⊢
 have hz:(mkS u).size=u.length:=size_mk u
 have V:=hide (fun w=>Valid (mkS u) w (by omega))
 have K:=hide (fun w=>go_.Clone (mkS u) w (by omega))
 rw [byt_mk] at V
 clear hz
 generalize nameOk u=b at *
 cases b
 ·go_enter Tryz.func238,Tryz.ntmps238
  go_wp2_with (first
   | (go_at_call 258;refine (U.out _).mono ?_;rintro e w1 ⟨rfl,h1⟩;replace h1:=hide h1)
   | (go_at_call 259;refine (V.out _).mono ?_;rintro e w2 ⟨rfl,h2⟩;replace h2:=hide h2))
  go_ret3
  exact ⟨rfl,bel_next h1.out h2.out⟩
 ·go_enter Tryz.func238,Tryz.ntmps238
  go_wp2_with (first
   | (go_at_call 258;refine (U.out _).mono ?_;rintro e w1 ⟨rfl,h1⟩;replace h1:=hide h1)
   | (go_at_call 259;refine (V.out _).mono ?_;rintro e w2 ⟨rfl,h2⟩;replace h2:=hide h2)
   | (go_at_call 247;refine (K.out _).mono ?_;rintro e w3 ⟨rfl,h3⟩;replace h3:=hide h3))
  go_ret3
  exact ⟨rfl,bel_next (bel_next h1.out h2.out) h3.out⟩
end tn_
theorem tmodI (y k:Int):y.tmod k=0 ↔ y % k=0:=⟨fun h=>Int.emod_eq_zero_of_dvd (Int.dvd_of_tmod_eq_zero h),fun h=>Int.tmod_eq_zero_of_dvd (Int.dvd_of_emod_eq_zero h)⟩
theorem ret2i {a b c d:Int} (h:a=b) (h':c=d):Ending.returned (.tuple #[.int .i64 a,.int .i64 c])=.returned (.tuple #[.int .i64 b,.int .i64 d]):=by rw [h,h']
theorem ret3i {a b c d e f:Int} (h:a=b) (h':c=d) (h'':e=f):Ending.returned (.tuple #[.int .i64 a,.int .i64 c,.int .i64 e])=.returned (.tuple #[.int .i64 b,.int .i64 d,.int .i64 f]):=by rw [h,h',h'']
namespace r4_
theorem era (y:Int) (w:World) (h0:-2000000000000≤y) (h1:y≤2000000000000) :
 Calls Tryz.prog 248 #[.int .i64 y] w fun e w'=>e=.returned (.tuple #[.int .i64 ((y - 2000) / 400),.int .i64 ((y - 2000) % 400)])∧w=w':=by
 by_cases hp:2000≤y
 ·go_enter Tryz.func248,Tryz.ntmps248
  go_wp2
  go_ret2
  exact ⟨rfl,rfl⟩
 ·obtain ⟨z,hz⟩:∃ z:Nat,y - 2000=-(z:Int):=⟨(2000 - y).toNat,by omega⟩
  have e1:(y - 2000).tdiv 400=-((z:Int) / 400):=by rw [hz,Int.neg_tdiv,Int.tdiv_eq_ediv_of_nonneg (by omega)]
  have e2:(y - 2000).tmod 400=-((z:Int) % 400):=by rw [hz,Int.neg_tmod,Int.tmod_eq_emod_of_nonneg (by omega)]
  go_enter Tryz.func248,Tryz.ntmps248
  go_wp2
  all_goals go_ret2
  all_goals exact ⟨ret2i (by omega) (by omega),rfl⟩
end r4_
def vrd (K D M Wk Wd T:Int):Value:=.agg #[.int .i64 K,.int .i64 D,.int .i64 M,.int .i64 Wk,.int .i64 Wd,.int .i64 T]
theorem cells6 {w:World} {g:Nat} {a b c d e f:Value} (h:Bx w g [a,b,c,d,e,f]):w.cell? ⟨g,0,none⟩=some a∧w.cell? ⟨g,1,none⟩=some b∧w.cell? ⟨g,2,none⟩=some c∧w.cell? ⟨g,3,none⟩=some d∧w.cell? ⟨g,4,none⟩=some e∧w.cell? ⟨g,5,none⟩=some f :=
 ⟨h.2.1 0 _ rfl,h.2.1 1 _ rfl,h.2.1 2 _ rfl,h.2.1 3 _ rfl,h.2.1 4 _ rfl,h.2.1 5 _ rfl⟩
namespace r6_
end r6_
open Go.ChangeShapes Go.WideShapes Go.ChangeAt Go.RowKit Go.Maps
def heldE (v:Value):Option (DataW Value × List MemPlace):=some (.held v,[])
theorem heldE_inv {v x:Value} {ps:List MemPlace} (h:heldE v=some (.held x,ps)):v=x:=by
 simp only [heldE,Option.some.injEq,Prod.mk.injEq,DataW.held.injEq] at h
 exact h.1
theorem own_below {w w':World} {P:Program} {k:TypeId} {R:Value→Option (DataW Value × List MemPlace)} {b n:Nat} {D:DataW Value} (h:w.ownsMap P k R b n D) (hb:Below w.heap.size w w'):w'.ownsMap P k R b n D:=by
 have hlt:=h.lt
 obtain ⟨es,clock,h1,F,hs,hD⟩:=h
 exact ⟨es,clock,(hb.block b hlt).trans h1,F,hs,hD⟩
theorem wpList_insert_held {P:Program} (w:World) {ops:Array Oper} {rest:List Oper} {o:Oper} {a:Act} {Q:Exit→Act→World→Prop}
 (hg:o.guard=none) (m x v:Operand) (t:TypeId) (hop:o.op=Op.insert t m x v)
 (k e:TypeId) (K:Keyed P k) (ht:P.underlying t=some (.map k e)) (b n:Nat) (D:DataW Value)
 (hm:a.eval m=.map (some b)) (hown:w.ownsMap P k heldE b n D) (hn:n<maxLen) (key val:Value) (kl:Lit) (hx:a.eval x=key) (hv:a.eval v=val) (hkey:keyOf P k key=some kl)
 (hK:∀ w',w'.ownsMap P k heldE b (n+1) (D.put kl (.held val))→w.grownBy w' (some b)→wpList P ops Q rest (a.put o.dst undef) w') :
 wpList P ops Q (o :: rest) a w:=by
 refine wpList_plain hg fun K' hK'=>?_
 obtain ⟨w',hrun,r1,r2⟩:=hown.update (R:=heldE) (val:=val) (d:=.held val) (ps:=[]) K ht hn hkey rfl
 unfold Oper.wp
 simp [execOp,hop,hm,hx,hv,hrun,Result.andThen]
 exact hK' _ _ (hK w' r1 r2)
theorem held_look {w:World} {P:Program} {k t e:TypeId} {b n:Nat} {D:DataW Value} (h:w.ownsMap P k heldE b n D) (K:Keyed P k) (ht:P.underlying t=some (.map k e)) (hz:(zeroValue e).run P w=.ok .nilFunc w)
 {key:Value} {kl:Lit} (hkey:keyOf P k key=some kl) {v:Value} (hv:D.atKey kl (.held .nilFunc)=.held v):(Instr.lookup t (.map (some b)) key false).run P w=.ok v w:=by
 obtain ⟨u,ps,hrun,hu⟩:=h.lookup K ht hz rfl hkey
 rw [hv] at hu
 rw [hrun,heldE_inv hu]
theorem held_look_ok {w:World} {P:Program} {k t e:TypeId} {b n:Nat} {D:DataW Value} (h:w.ownsMap P k heldE b n D) (K:Keyed P k) (ht:P.underlying t=some (.map k e)) (hz:(zeroValue e).run P w=.ok .nilFunc w)
 {key:Value} {kl:Lit} (hkey:keyOf P k key=some kl) {v:Value} {ok:Bool} (hv:D.atKey kl (.held .nilFunc)=.held v) (ho:Maps.has D kl=ok):(Instr.lookup t (.map (some b)) key true).run P w=.ok (.tuple #[v,.bool ok]) w:=by
 obtain ⟨u,ps,hrun,hu⟩:=h.look_ok K ht hz rfl hkey
 rw [hv] at hu
 rw [hrun,heldE_inv hu,ho]
def three (f1 f2 f3:Value):DataW Value:=(((DataW.map []).put (.int .i64 1) (.held f1)).put (.int .i64 2) (.held f2)).put (.int .i64 3) (.held f3)
theorem three_is (f1 f2 f3:Value):three f1 f2 f3=.map [(.int .i64 1,.held f1),(.int .i64 2,.held f2),(.int .i64 3,.held f3)]:=by
 simp [three,DataW.put,DataW.insert,Lit.sameKey,Lit.before]
theorem three_1 (f1 f2 f3:Value):(three f1 f2 f3).atKey (.int .i64 1) (.held .nilFunc)=.held f1∧Maps.has (three f1 f2 f3) (.int .i64 1)=true:=by
 rw [three_is];simp [DataW.atKey,Lit.sameKey,Maps.has]
theorem three_2 (f1 f2 f3:Value):(three f1 f2 f3).atKey (.int .i64 2) (.held .nilFunc)=.held f2∧Maps.has (three f1 f2 f3) (.int .i64 2)=true:=by
 rw [three_is];simp [DataW.atKey,Lit.sameKey,Maps.has]
theorem three_3 (f1 f2 f3:Value):(three f1 f2 f3).atKey (.int .i64 3) (.held .nilFunc)=.held f3∧Maps.has (three f1 f2 f3) (.int .i64 3)=true:=by
 rw [three_is];simp [DataW.atKey,Lit.sameKey,Maps.has]
theorem three_no (f1 f2 f3:Value) {K:Int} (h1:K≠1) (h2:K≠2) (h3:K≠3):(three f1 f2 f3).atKey (.int .i64 K) (.held .nilFunc)=.held .nilFunc∧Maps.has (three f1 f2 f3) (.int .i64 K)=false:=by
 have a1:¬ (1:Int)=K:=fun e=>h1 e.symm
 have a2:¬ (2:Int)=K:=fun e=>h2 e.symm
 have a3:¬ (3:Int)=K:=fun e=>h3 e.symm
 rw [three_is];simp [DataW.atKey,Lit.sameKey,Maps.has,a1,a2,a3]
open Go.ChangeShapes Go.WideShapes Go.ChangeAt Go.RowKit Go.Maps
namespace rd_
theorem between_ (v a b:Int) (w:World):Calls Tryz.prog 299 #[.int .i64 v,.int .i64 a,.int .i64 b] w fun e w'=>e=.returned (.bool (decide (a≤v∧v≤b)))∧w=w':=by
 by_cases h:a≤v
 all_goals
  go_enter Tryz.func299,Tryz.ntmps299
  go_wp2
  go_ret
  exact ⟨retb (by first | (simp [h];done) | (simp;omega)),rfl⟩
def fnN (g:Nat):Value:=.func (.func 326) #[] #[.pointer (some ⟨g,0,none⟩)]
def fnM:Value:=.func (.func 311) #[] #[]
theorem numbered_ (n:Int) (w:World):Calls Tryz.prog 310 #[.int .i64 n] w fun e w'=>e=.returned (fnN w.heap.size)∧Bx w' w.heap.size [.int .i64 n]∧Below w.heap.size w w':=by
 have hmf:∀ (fn:Fn) (first cap:Array Value) (w:World),(Instr.makeFunc fn first cap).run Tryz.prog w=.ok (.func fn first cap) w:=fun _ _ _ _=>rfl
 go_enter Tryz.func310,Tryz.ntmps310
 go_wp2
 go_ret
 exact ⟨rfl,Bx.new w [.int .i64 n] _,bl_new _ _⟩
def Chk (w:World) (B g1 g0:Nat):Prop :=
 w.ownsMap Tryz.prog 3 heldE B 3 (three (fnN g1) (fnN g0) fnM)∧Bx w g1 [.int .i64 1]∧Bx w g0 [.int .i64 0]
theorem Chk.below {w w':World} {B g1 g0:Nat} (h:Chk w B g1 g0) (hb:Below w.heap.size w w'):Chk w' B g1 g0:=⟨own_below h.1 hb,h.2.1.below hb,h.2.2.below hb⟩
theorem law:Keyed Tryz.prog 3:=int_keyed Tryz.underlying3
theorem keyl {K:Int} (h:(Lit.int .i64 K).wf=true):keyOf Tryz.prog 3 (.int .i64 K)=some (.int .i64 K):=keyOf_int_mk Tryz.underlying3 h
theorem checks_ (w:World):Calls Tryz.prog 298 #[] w fun e w'=>∃ B g1 g0,e=.returned (.map (some B))∧Chk w' B g1 g0∧Below w.heap.size w w':=by
 have hmm:=@run_makeMap Tryz.prog
 have o0:=hide (World.ownsMap_made w Tryz.prog 3 heldE)
 have b0:=hide (bl_new w (.map #[] 0))
 go_enter Tryz.func298,Tryz.ntmps298
 go_wp2_with fail
 refine (numbered_ 1 _).mono ?_
 rintro e w1 ⟨rfl,x1,h1⟩
 replace o0:=hide (own_below o0.out h1)
 replace b0:=hide (bel_next b0.out h1)
 have s1:=h1.size
 have z0:(w.alloc (.map #[] 0)).heap.size=w.heap.size+1:=by simp
 rw [z0] at s1 x1
 go_wp2_with (refine wpList_insert_held _ rfl _ _ _ 327 rfl 3 147 law Tryz.underlying327 w.heap.size 0 (.map []) rfl o0.out (by decide) _ (fnN (w.heap.size+1)) (.int .i64 1) rfl rfl (keyl (by decide)) ?_;intro w2 o2 g2)
 have s2:=g2.size
 replace x1:=hide (x1.grown g2 (by simp))
 replace b0:=hide (b0.out.grown g2 (by omega) (fun j hj=>by cases hj;omega))
 clear o0 g2 h1
 replace o2:=hide o2
 refine (numbered_ 0 _).mono ?_
 rintro e w3 ⟨rfl,x3,h3⟩
 have s3:=h3.size
 replace o2:=hide (own_below o2.out h3)
 replace x1:=hide (x1.out.below h3)
 replace b0:=hide (b0.out.trans (h3.mono (by omega)))
 replace x3:=hide x3
 clear h3
 go_wp2_with (first | (refine wpList_insert_held _ rfl _ _ _ 327 rfl 3 147 law Tryz.underlying327 w.heap.size 1 _ rfl o2.out (by decide) _ (fnN w2.heap.size) (.int .i64 2) rfl rfl (keyl (by decide)) ?_;intro w4 o4 g4) | (refine wpList_insert_held _ rfl _ _ _ 327 rfl 3 147 law Tryz.underlying327 w.heap.size 2 _ rfl (hide o4).out (by decide) _ fnM (.int .i64 3) rfl rfl (keyl (by decide)) ?_;intro w5 o5 g5))
 have s4:=g4.size
 have s5:=g5.size
 go_ret
 exact ⟨_,_,_,rfl,⟨o5,(x1.out.grown g4 (by simp)).grown g5 (by simp),(x3.out.grown g4 (by simp;omega)).grown g5 (by simp;omega)⟩,(b0.out.grown g4 (by omega) (fun j hj=>by cases hj;omega)).grown g5 (by omega) (fun j hj=>by cases hj;omega)⟩
theorem month_ (K D M Wk Wd T:Int) (w:World):Calls Tryz.prog 311 #[vrd K D M Wk Wd T] w fun e w'=>e=.returned (.bool (decide (1≤M∧M≤12∧1≤Wk∧Wk≤5∧0≤Wd∧Wd≤6∧D=0)))∧Below w.heap.size w w':=by
 have A:=hide (fun (v a b:Int) w=>between_ v a b w)
 unfold vrd
 by_cases h1:1≤M∧M≤12
 all_goals by_cases h2:1≤Wk∧Wk≤5
 all_goals by_cases h3:0≤Wd∧Wd≤6
 all_goals
  go_enter Tryz.func311,Tryz.ntmps311
  go_wp2_with (go_at_call 299;refine (A.out _ _ _ _).mono ?_;rintro e w' ⟨rfl,rfl⟩)
  go_ret
  refine ⟨retb ?_,bl_new _ _⟩
  by_cases h4:D=0
  all_goals simp [h1,h2,h3,h4]
  all_goals try omega
theorem closed_ (n K D M Wk Wd T:Int) (w:World) (g:Nat) (hx:Bx w g [.int .i64 n]):Calls Tryz.prog 326 #[vrd K D M Wk Wd T,.pointer (some ⟨g,0,none⟩)] w fun e w'=>e=.returned (.bool (decide (M=0∧Wk=0∧Wd=0∧n≤D∧D≤365)))∧Below w.heap.size w w':=by
 have A:=hide (fun (v a b:Int) w=>between_ v a b w)
 unfold vrd
 obtain ⟨p,hp⟩:∃ p,p=decide (M=0∧Wk=0∧Wd=0):=⟨_,rfl⟩
 have hcmp:∀ w:World,(binOp .eql 81 (.agg #[.int .i64 K,.int .i64 D,.int .i64 M,.int .i64 Wk,.int .i64 Wd,.int .i64 T]) (.agg #[.int .i64 K,.int .i64 D,.int .i64 0,.int .i64 0,.int .i64 0,.int .i64 T])).run Tryz.prog w=.ok (.bool p) w:=by
  intro w
  rw [hp]
  simp [go_sem]
  by_cases a:M=0 <;> by_cases b:Wk=0 <;> by_cases c:Wd=0 <;> simp [a,b,c]
 replace hp:=hide hp
 have hc:∀ o1 o2,((w.alloc o1).alloc o2).cell? ⟨g,0,none⟩=some (.int .i64 n):=fun o1 o2=>(hx.alloc o1).alloc o2 |>.2.1 0 _ rfl
 have hb:=hide (fun o1 o2=>bl_alloc (bl_new w o1) o2)
 clear hx
 cases p
 all_goals
  go_enter Tryz.func326,Tryz.ntmps326
  go_wp2_with (go_at_call 299;refine (A.out _ _ _ _).mono ?_;rintro e w' ⟨rfl,rfl⟩)
  go_ret
  refine ⟨retb ?_,hb.out _ _⟩
  have h:=hp.out
 ·symm at h
  rw [decide_eq_false_iff_not] at h
  symm
  rw [decide_eq_false_iff_not]
  omega
 ·symm at h
  rw [decide_eq_true_iff] at h
  rw [Bool.eq_iff_iff,decide_eq_true_iff,Bool.and_eq_true,decide_eq_true_iff,decide_eq_true_iff]
  omega
theorem Valid1 (D M Wk Wd T:Int) (w:World):Calls Tryz.prog 292 #[vrd 1 D M Wk Wd T] w fun e w'=>e=.returned (.bool (decide (RdOk 1 D M Wk Wd T)))∧Below w.heap.size w w':=by
 have A:=hide (fun (v a b:Int) w=>between_ v a b w)
 have C:=hide (fun w=>checks_ w)
 have hb:=hide (bl_new w (.cells #[.int .i64 1,.int .i64 D,.int .i64 M,.int .i64 Wk,.int .i64 Wd,.int .i64 T] 81))
 have bx:=hide (Bx.new w [.int .i64 1,.int .i64 D,.int .i64 M,.int .i64 Wk,.int .i64 Wd,.int .i64 T] 81)
 have bxd:=hide (bx.out.drew)
 have hbd:=hide (bl_drew hb.out)
 have zf:∀ w,(zeroValue 147).run Tryz.prog w=.ok .nilFunc w:=fun _=>rfl
 unfold vrd
 go_enter Tryz.func292,Tryz.ntmps292
 go_upto_region 1 with fail
 go_region_with (go_at_call 298;refine (C.out _).mono ?_;rintro e w6 ⟨B,g1,g0,rfl,hc,h1'⟩;have hl:=held_look_ok hc.1 law Tryz.underlying327 (zf _) (keyl (by decide)) (three_1 _ _ _).1 (three_1 _ _ _).2;simp only [fnN] at hl;obtain ⟨y0,y1,y2,y3,y4,y5⟩:=cells6 (Bx.below bxd.out h1');have hbf:=hide (bel_next hbd.out h1');have bxf:=hide (bxd.out.below h1');replace hc:=hide hc;clear h1')
 all_goals
  clear bx bxd hbd hb
  by_cases hT:-604799≤T∧T≤604799
  ·go_wp2_with (first
    | (go_at_call 299;refine (A.out _ _ _ _).mono ?_;rintro e w' ⟨rfl,rfl⟩)
    | (refine (closed_ 1 1 D M Wk Wd T _ _ hc.out.2.1).mono ?_;rintro e w7 ⟨rfl,h7⟩))
   go_ret
   refine ⟨retb ?_,bel_next hbf.out h7⟩
   rw [Bool.eq_iff_iff,decide_eq_true_iff]
   simp only [Bool.and_eq_true,decide_eq_true_eq]
   unfold RdOk
   omega
  ·go_wp2_with (go_at_call 299;refine (A.out _ _ _ _).mono ?_;rintro e w' ⟨rfl,rfl⟩)
   go_ret
   refine ⟨retb ?_,hbf.out⟩
   symm
   rw [decide_eq_false_iff_not]
   unfold RdOk
   omega
theorem Valid2 (D M Wk Wd T:Int) (w:World):Calls Tryz.prog 292 #[vrd 2 D M Wk Wd T] w fun e w'=>e=.returned (.bool (decide (RdOk 2 D M Wk Wd T)))∧Below w.heap.size w w':=by
 have A:=hide (fun (v a b:Int) w=>between_ v a b w)
 have C:=hide (fun w=>checks_ w)
 have hb:=hide (bl_new w (.cells #[.int .i64 2,.int .i64 D,.int .i64 M,.int .i64 Wk,.int .i64 Wd,.int .i64 T] 81))
 have bx:=hide (Bx.new w [.int .i64 2,.int .i64 D,.int .i64 M,.int .i64 Wk,.int .i64 Wd,.int .i64 T] 81)
 have bxd:=hide (bx.out.drew)
 have hbd:=hide (bl_drew hb.out)
 have zf:∀ w,(zeroValue 147).run Tryz.prog w=.ok .nilFunc w:=fun _=>rfl
 unfold vrd
 go_enter Tryz.func292,Tryz.ntmps292
 go_upto_region 1 with fail
 go_region_with (go_at_call 298;refine (C.out _).mono ?_;rintro e w6 ⟨B,g1,g0,rfl,hc,h1'⟩;have hl:=held_look_ok hc.1 law Tryz.underlying327 (zf _) (keyl (by decide)) (three_2 _ _ _).1 (three_2 _ _ _).2;simp only [fnN] at hl;obtain ⟨y0,y1,y2,y3,y4,y5⟩:=cells6 (Bx.below bxd.out h1');have hbf:=hide (bel_next hbd.out h1');have bxf:=hide (bxd.out.below h1');replace hc:=hide hc;clear h1')
 all_goals
  clear bx bxd hbd hb
  by_cases hT:-604799≤T∧T≤604799
  ·go_wp2_with (first
    | (go_at_call 299;refine (A.out _ _ _ _).mono ?_;rintro e w' ⟨rfl,rfl⟩)
    | (refine (closed_ 0 2 D M Wk Wd T _ _ hc.out.2.2).mono ?_;rintro e w7 ⟨rfl,h7⟩))
   go_ret
   refine ⟨retb ?_,bel_next hbf.out h7⟩
   rw [Bool.eq_iff_iff,decide_eq_true_iff]
   simp only [Bool.and_eq_true,decide_eq_true_eq]
   unfold RdOk
   omega
  ·go_wp2_with (go_at_call 299;refine (A.out _ _ _ _).mono ?_;rintro e w' ⟨rfl,rfl⟩)
   go_ret
   refine ⟨retb ?_,hbf.out⟩
   symm
   rw [decide_eq_false_iff_not]
   unfold RdOk
   omega
theorem Valid3 (D M Wk Wd T:Int) (w:World):Calls Tryz.prog 292 #[vrd 3 D M Wk Wd T] w fun e w'=>e=.returned (.bool (decide (RdOk 3 D M Wk Wd T)))∧Below w.heap.size w w':=by
 have A:=hide (fun (v a b:Int) w=>between_ v a b w)
 have C:=hide (fun w=>checks_ w)
 have hb:=hide (bl_new w (.cells #[.int .i64 3,.int .i64 D,.int .i64 M,.int .i64 Wk,.int .i64 Wd,.int .i64 T] 81))
 have bx:=hide (Bx.new w [.int .i64 3,.int .i64 D,.int .i64 M,.int .i64 Wk,.int .i64 Wd,.int .i64 T] 81)
 have bxd:=hide (bx.out.drew)
 have hbd:=hide (bl_drew hb.out)
 have zf:∀ w,(zeroValue 147).run Tryz.prog w=.ok .nilFunc w:=fun _=>rfl
 unfold vrd
 go_enter Tryz.func292,Tryz.ntmps292
 go_upto_region 1 with fail
 go_region_with (go_at_call 298;refine (C.out _).mono ?_;rintro e w6 ⟨B,g1,g0,rfl,hc,h1'⟩;have hl:=held_look_ok hc.1 law Tryz.underlying327 (zf _) (keyl (by decide)) (three_3 _ _ _).1 (three_3 _ _ _).2;simp only [fnM] at hl;obtain ⟨y0,y1,y2,y3,y4,y5⟩:=cells6 (Bx.below bxd.out h1');have hbf:=hide (bel_next hbd.out h1');have bxf:=hide (bxd.out.below h1');replace hc:=hide hc;clear h1')
 all_goals
  clear bx bxd hbd hb
  by_cases hT:-604799≤T∧T≤604799
  ·go_wp2_with (first
    | (go_at_call 299;refine (A.out _ _ _ _).mono ?_;rintro e w' ⟨rfl,rfl⟩)
    | (refine (month_ 3 D M Wk Wd T _).mono ?_;rintro e w7 ⟨rfl,h7⟩))
   go_ret
   refine ⟨retb ?_,bel_next hbf.out h7⟩
   rw [Bool.eq_iff_iff,decide_eq_true_iff]
   simp only [Bool.and_eq_true,decide_eq_true_eq]
   unfold RdOk
   omega
  ·go_wp2_with (go_at_call 299;refine (A.out _ _ _ _).mono ?_;rintro e w' ⟨rfl,rfl⟩)
   go_ret
   refine ⟨retb ?_,hbf.out⟩
   symm
   rw [decide_eq_false_iff_not]
   unfold RdOk
   omega
theorem Valid0 (K D M Wk Wd T:Int) (w:World) (hw:(Lit.int .i64 K).wf=true) (n1:K≠1) (n2:K≠2) (n3:K≠3):Calls Tryz.prog 292 #[vrd K D M Wk Wd T] w fun e w'=>e=.returned (.bool (decide (RdOk K D M Wk Wd T)))∧Below w.heap.size w w':=by
 have A:=hide (fun (v a b:Int) w=>between_ v a b w)
 have C:=hide (fun w=>checks_ w)
 have hb:=hide (bl_new w (.cells #[.int .i64 K,.int .i64 D,.int .i64 M,.int .i64 Wk,.int .i64 Wd,.int .i64 T] 81))
 have bx:=hide (Bx.new w [.int .i64 K,.int .i64 D,.int .i64 M,.int .i64 Wk,.int .i64 Wd,.int .i64 T] 81)
 have bxd:=hide (bx.out.drew)
 have hbd:=hide (bl_drew hb.out)
 have zf:∀ w,(zeroValue 147).run Tryz.prog w=.ok .nilFunc w:=fun _=>rfl
 unfold vrd
 go_enter Tryz.func292,Tryz.ntmps292
 go_upto_region 1 with fail
 go_region_with (go_at_call 298;refine (C.out _).mono ?_;rintro e w6 ⟨B,g1,g0,rfl,hc,h1'⟩;have hl:=held_look_ok hc.1 law Tryz.underlying327 (zf _) (keyl hw) (three_no _ _ _ n1 n2 n3).1 (three_no _ _ _ n1 n2 n3).2; obtain ⟨y0,y1,y2,y3,y4,y5⟩:=cells6 (Bx.below bxd.out h1');have hbf:=hide (bel_next hbd.out h1');have bxf:=hide (bxd.out.below h1');replace hc:=hide hc;clear h1')
 all_goals
  clear bx bxd hbd hb
  go_wp2
  go_ret
  refine ⟨retb ?_,hbf.out⟩
  symm
  rw [decide_eq_false_iff_not]
  unfold RdOk
  omega
theorem Valid_ (K D M Wk Wd T:Int) (w:World) (hw:(Lit.int .i64 K).wf=true):Calls Tryz.prog 292 #[vrd K D M Wk Wd T] w fun e w'=>e=.returned (.bool (decide (RdOk K D M Wk Wd T)))∧Below w.heap.size w w':=by
 rcases (show K=1∨K=2∨K=3∨(K≠1∧K≠2∧K≠3) by omega) with rfl | rfl | rfl | ⟨n1,n2,n3⟩
 ·exact Valid1 D M Wk Wd T w
 ·exact Valid2 D M Wk Wd T w
 ·exact Valid3 D M Wk Wd T w
 ·exact Valid0 K D M Wk Wd T w hw n1 n2 n3
end rd_
end Go.Proofs.YtpapfpcehlhgeaaGreatDoor
