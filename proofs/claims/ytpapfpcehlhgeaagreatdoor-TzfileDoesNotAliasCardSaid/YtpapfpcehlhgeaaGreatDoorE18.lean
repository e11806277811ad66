/-
  Texts of mine in one file: BlD. Their conditions stand in the theorems.
-/
import Derived.Test.YtpapfpcehlhgeaaGreatDoorE17
import Derived.Test.YtpapfpcehlhgeaaGreatDoorE03
import Derived.Test.YtpapfpcehlhgeaaGreatDoorE05
import Derived.Test.YtpapfpcehlhgeaaGreatDoorE06
import Derived.Test.YtpapfpcehlhgeaaGreatDoorE02
namespace Go.Proofs.YtpapfpcehlhgeaaGreatDoor
set_option linter.unusedVariables false
set_option linter.unusedSimpArgs false
set_option maxRecDepth 100000
set_option maxHeartbeats 16000000
open Go.ChangeShapes Go.WideShapes Go.ChangeAt Go.RowKit
def Tq (w:World):Prop:=Tt w∧Ti w
theorem Tq.below {w w':World} (h:Tq w) (hb:Below w.heap.size w w'):Tq w':=⟨h.1.below hb,h.2.below hb⟩
def Bk.le (b:Bk) (n:Nat):Prop:=b.ti.length≤n∧b.ix.length≤n∧b.ty.length≤n∧b.ch.length≤n∧b.lp.length≤n∧b.sd.length≤n∧b.ut.length≤n
theorem few_le {b:Bk} (h:fewB b=true):b.le 1000:=by
 simp only [fewB,Bool.and_eq_true,decide_eq_true_eq] at h
 unfold Bk.le
 omega
def ctS (A:Option Addr) (lo hi:Nat):Sl:=⟨if hi=lo then A else A.map (·.add lo),hi - lo,hi - lo⟩
def ctV (A:Option Addr) (O:List Nat):List Value:=(List.range 7).map fun i=>slvC (ctS A (O[i]?.getD 0) (O[i+1]?.getD 0))
theorem ctV_len (A:Option Addr) (O:List Nat):(ctV A O).length=7:=by simp [ctV]
theorem ctV_at (A:Option Addr) (O:List Nat) {k lo hi:Nat} (hk:k<7) (h0:O[k]?=some lo) (h1:O[k+1]?=some hi):(ctV A O)[k]?=some (slvC (ctS A lo hi)):=by
 unfold ctV
 rw [List.getElem?_map,List.getElem?_range hk,Option.map_some,h0,h1]
 rfl
theorem ct_ok {A:Option Addr} {lo hi n:Nat} (hA:A=none→n=0) (h1:lo≤hi) (h2:hi≤n) (hm:n≤100000):(ctS A lo hi).ok:=by
 refine ⟨fun h=>?_,Nat.le_refl _,by unfold ctS;dsimp only;omega⟩
 unfold ctS at h ⊢
 dsimp only at h ⊢
 split at h
 ·omega
 ·cases A with
  | none=>have:=hA rfl;omega
  | some a=>cases h
theorem ct_rd {w:World} {A:Option Addr} {n lo hi:Nat} {xs:List Value} (h:Rd w A n xs) (h1:lo≤hi) (h2:hi≤n):Rd w (ctS A lo hi).A (ctS A lo hi).n ((xs.drop lo).take (hi - lo)):=by
 have:=(h.cut (k:=lo) (cap:=n) (by omega) (Nat.le_refl _)).take (k:=hi - lo) (by omega)
 unfold ctS
 dsimp only
 by_cases he:hi=lo
 ·rw [if_pos he,show hi - lo=0 by omega,List.take_zero]
  exact ⟨rfl,fun h=>absurd h (by omega)⟩
 ·rw [if_neg he]
  rwa [if_neg (by omega)] at this
namespace bl_
theorem Header (S:BkS) (b:Bk) (v:Int) (w:World) (hT:Tq w) (h:IsBk w S b) (hf:b.le 100000):Calls Tryz.prog 53 #[bkV S,.int .i64 v] w fun e w'=>e=.returned (hdB v b)∧Below w.heap.size w w':=by
 obtain ⟨l1,l2,l3,l4,l5,l6,l7⟩:=h.lens
 unfold Bk.le at hf
 unfold hdB
 rw [l1,l3,l4,l5,l6,l7]
 have k1:IntKind.u32.wrap (S.ti.n:Int)=S.ti.n:=by rw [IntKind.wrap_u32];omega
 have k3:IntKind.u32.wrap (S.ty.n:Int)=S.ty.n:=by rw [IntKind.wrap_u32];omega
 have k4:IntKind.u32.wrap (S.ch.n:Int)=S.ch.n:=by rw [IntKind.wrap_u32];omega
 have k5:IntKind.u32.wrap (S.lp.n:Int)=S.lp.n:=by rw [IntKind.wrap_u32];omega
 have k6:IntKind.u32.wrap (S.sd.n:Int)=S.sd.n:=by rw [IntKind.wrap_u32];omega
 have k7:IntKind.u32.wrap (S.ut.n:Int)=S.ut.n:=by rw [IntKind.wrap_u32];omega
 clear hT hf l1 l2 l3 l4 l5 l6 l7 h
 obtain ⟨⟨A1,n1,c1⟩,⟨A2,n2,c2⟩,⟨A3,n3,c3⟩,⟨A4,n4,c4⟩,⟨A5,n5,c5⟩,⟨A6,n6,c6⟩,⟨A7,n7,c7⟩⟩:=S
 dsimp only at k1 k3 k4 k5 k6 k7 ⊢
 go_enter Tryz.func53,Tryz.ntmps53
 go_wp2
 exact bodyPost_ret (v:=hdV v n7 n6 n5 n1 n3 n4) (by simp [results,Tryz.results53,go_sem]) rfl ⟨rfl,bl_alloc (bl_new _ _) _⟩
theorem cut (A:Option Addr) (n c o0 o1 o2 o3 o4 o5 o6 o7:Nat) (w:World) (hc:n≤c) (hcm:c≤9223372036854775807) (h1:o0≤o1) (h2:o1≤o2) (h3:o2≤o3) (h4:o3≤o4) (h5:o4≤o5) (h6:o5≤o6) (h7:o6≤o7) (h8:o7≤n) :
 Calls Tryz.prog 123 #[.slice A n c,.agg #[.int .u64 o0,.int .u64 o1,.int .u64 o2,.int .u64 o3,.int .u64 o4,.int .u64 o5,.int .u64 o6,.int .u64 o7]] w fun e w'=>e=.returned (.agg #[slvC (ctS A o0 o1),slvC (ctS A o1 o2),slvC (ctS A o2 o3),slvC (ctS A o3 o4),slvC (ctS A o4 o5),slvC (ctS A o5 o6),slvC (ctS A o6 o7)])∧Below w.heap.size w w':=by
 have hO:=hide (show ∀ k,k<7→∃ lo hi,[o0,o1,o2,o3,o4,o5,o6,o7][k]?=some lo∧[o0,o1,o2,o3,o4,o5,o6,o7][k+1]?=some hi∧lo≤hi∧hi≤c by
  intro k hk
  rcases (show k=0∨k=1∨k=2∨k=3∨k=4∨k=5∨k=6 by omega) with rfl | rfl | rfl | rfl | rfl | rfl | rfl
  all_goals exact ⟨_,_,rfl,rfl,by omega,by omega⟩)
 have hV:=hide (show ctV A [o0,o1,o2,o3,o4,o5,o6,o7]=[slvC (ctS A o0 o1),slvC (ctS A o1 o2),slvC (ctS A o2 o3),slvC (ctS A o3 o4),slvC (ctS A o4 o5),slvC (ctS A o5 o6),slvC (ctS A o6 o7)] from rfl)
 have hX:=hide (show [o0,o1,o2,o3,o4,o5,o6,o7].map (fun o:Nat=>Value.int .u64 o)=[.int .u64 o0,.int .u64 o1,.int .u64 o2,.int .u64 o3,.int .u64 o4,.int .u64 o5,.int .u64 o6,.int .u64 o7] from rfl)
 have Z7:=hide (show rowG (Value.slice none 0 0) (ctV A [o0,o1,o2,o3,o4,o5,o6,o7]) 7 0=[.slice none 0 0,.slice none 0 0,.slice none 0 0,.slice none 0 0,.slice none 0 0,.slice none 0 0,.slice none 0 0] from rfl)
 have hL:=hide (ctV_len A [o0,o1,o2,o3,o4,o5,o6,o7])
 have hCt:=hide (fun k lo hi hk a b=>ctV_at A [o0,o1,o2,o3,o4,o5,o6,o7] (k:=k) (lo:=lo) (hi:=hi) hk a b)
 clear h1 h2 h3 h4 h5 h6 h7 h8
 generalize ctV A [o0,o1,o2,o3,o4,o5,o6,o7]=vs at *
 generalize [o0,o1,o2,o3,o4,o5,o6,o7]=O at *
 have hb:=hide (bl_alloc (bl_alloc (bl_new w (.cells #[.int .u64 o0,.int .u64 o1,.int .u64 o2,.int .u64 o3,.int .u64 o4,.int .u64 o5,.int .u64 o6,.int .u64 o7] 176)) (.cells zS7 174)) (.cells zS7 174))
 have b3:=hide (((Bx.new w [.int .u64 o0,.int .u64 o1,.int .u64 o2,.int .u64 o3,.int .u64 o4,.int .u64 o5,.int .u64 o6,.int .u64 o7] 176).alloc (.cells zS7 174)).alloc (.cells zS7 174))
 have b4:=hide ((bx_snd19 w (.cells #[.int .u64 o0,.int .u64 o1,.int .u64 o2,.int .u64 o3,.int .u64 o4,.int .u64 o5,.int .u64 o6,.int .u64 o7] 176) [.slice none 0 0,.slice none 0 0,.slice none 0 0,.slice none 0 0,.slice none 0 0,.slice none 0 0,.slice none 0 0] 174).alloc (.cells zS7 174))
 have b5:=hide (bx_snd19 (w.alloc (.cells #[.int .u64 o0,.int .u64 o1,.int .u64 o2,.int .u64 o3,.int .u64 o4,.int .u64 o5,.int .u64 o6,.int .u64 o7] 176)) (.cells zS7 174) [.slice none 0 0,.slice none 0 0,.slice none 0 0,.slice none 0 0,.slice none 0 0,.slice none 0 0,.slice none 0 0] 174)
 rw [show (w.alloc (.cells #[.int .u64 o0,.int .u64 o1,.int .u64 o2,.int .u64 o3,.int .u64 o4,.int .u64 o5,.int .u64 o6,.int .u64 o7] 176)).heap.size=w.heap.size+1 by simp] at b5
 go_enter Tryz.func123,Tryz.ntmps123
 go_upto_region 2 with fail
 generalize (((w.alloc (.cells #[.int .u64 o0,.int .u64 o1,.int .u64 o2,.int .u64 o3,.int .u64 o4,.int .u64 o5,.int .u64 o6,.int .u64 o7] 176)).alloc (.cells zS7 174)).alloc (.cells zS7 174))=w3 at *
 rw [← hX.out] at b3
 rw [← Z7.out] at b5
 go_wp2
 go_loopw [9] (fun iv wr=>∃ k:Nat,k≤7∧iv=.int .i64 k∧Hid (Bx wr w.heap.size (O.map (fun o:Nat=>Value.int .u64 o)))∧Hid (Bx wr (w.heap.size+1) [.slice none 0 0,.slice none 0 0,.slice none 0 0,.slice none 0 0,.slice none 0 0,.slice none 0 0,.slice none 0 0])∧Hid (Bx wr (w.heap.size+1+1) (rowG (Value.slice none 0 0) vs 7 k))∧Hid (Below w.heap.size w wr)) (fun iv _=>7 - (intOf iv).toNat)
 case atStart=>exact ⟨0,by omega,rfl,b3,b4,b5,hb⟩
 case round =>
  clear b3 b4 b5 hb
  obtain ⟨k,hk,rfl,b3,b4,b5,hb⟩:=hrel
  rcases Nat.lt_or_ge k 7 with hlt | hge
  ·obtain ⟨lo,hi,e0,e1,l1,l2⟩:=hO.out k hlt
   have hv:=hCt.out k lo hi hlt e0 e1
   obtain ⟨q,hq⟩:∃ q:Nat,q=k+1:=⟨_,rfl⟩
   have wq:IntKind.i64.wrap ((k:Int)+1)=(q:Int):=by rw [IntKind.wrap_i64];omega
   have c0:wr.cell? ⟨w.heap.size,k,none⟩=some (.int .u64 lo):=b3.out.2.1 k _ (by rw [List.getElem?_map,e0];rfl)
   have c1:wr.cell? ⟨w.heap.size,q,none⟩=some (.int .u64 hi):=b3.out.2.1 q _ (by rw [List.getElem?_map,hq,e1];rfl)
   have q8:q<8:=by omega
   have fr:=b5.out.fr k
   have hl5:k<(rowG (Value.slice none 0 0) vs 7 k).length:=by rw [rowG_len _ hL.out hk];exact hlt
   have c5:wr.cell? ⟨w.heap.size+1+1,k,none⟩=some (.slice none 0 0):=b5.out.2.1 k _ (rowG_at _ hL.out hlt)
   have s5:=hide (b5.out.set k (slvC (ctS A lo hi)) hl5)
   rw [rowG_set _ hL.out hv hlt] at s5
   have s3:=hide (b3.out.set_ne (g':=w.heap.size+1+1) k (by omega) (slvC (ctS A lo hi)))
   have s4:=hide (b4.out.set_ne (g':=w.heap.size+1+1) k (by omega) (slvC (ctS A lo hi)))
   have sb:=hide (bl_set (g:=w.heap.size+1+1) (o:=k) hb.out (by omega) (slvC (ctS A lo hi)))
   unfold slvC ctS at s3 s4 s5 sb
   dsimp only at s3 s4 s5 sb
   replace hq:=hide hq
   clear b3 b4 b5 hb e0 e1 hv hl5
   go_wp2_with fail
   go_region
   go_wp2
   obtain rfl:=hq.out
   go_roundw
   case rel=>exact ⟨k+1,by omega,by go_num,hide s3.out.drew,hide s4.out.drew,hide s5.out.drew,hide (bl_drew sb.out)⟩
   case measure=>simp [intOf];omega
  ·obtain rfl:k=7:=by omega
   rw [rowG_all _ hL.out,hV.out] at b5
   unfold slvC at b5
   have c5:=r14_.cells7' b5.out
   have c4:=r14_.cells7' b4.out
   have f4:=b4.out.fr
   have bn:=(((((((b4.out.set 0 (Value.slice (ctS A o0 o1).A (ctS A o0 o1).n (ctS A o0 o1).c) (by simp)).set 1 (Value.slice (ctS A o1 o2).A (ctS A o1 o2).n (ctS A o1 o2).c) (by simp)).set 2 (Value.slice (ctS A o2 o3).A (ctS A o2 o3).n (ctS A o2 o3).c) (by simp)).set 3 (Value.slice (ctS A o3 o4).A (ctS A o3 o4).n (ctS A o3 o4).c) (by simp)).set 4 (Value.slice (ctS A o4 o5).A (ctS A o4 o5).n (ctS A o4 o5).c) (by simp)).set 5 (Value.slice (ctS A o5 o6).A (ctS A o5 o6).n (ctS A o5 o6).c) (by simp)).set 6 (Value.slice (ctS A o6 o7).A (ctS A o6 o7).n (ctS A o6 o7).c) (by simp))
   have hbn:=hide (bl_set (g:=w.heap.size+1) (o:=6) (bl_set (g:=w.heap.size+1) (o:=5) (bl_set (g:=w.heap.size+1) (o:=4) (bl_set (g:=w.heap.size+1) (o:=3) (bl_set (g:=w.heap.size+1) (o:=2) (bl_set (g:=w.heap.size+1) (o:=1) (bl_set (g:=w.heap.size+1) (o:=0) hb.out (by omega) (Value.slice (ctS A o0 o1).A (ctS A o0 o1).n (ctS A o0 o1).c)) (by omega) (Value.slice (ctS A o1 o2).A (ctS A o1 o2).n (ctS A o1 o2).c)) (by omega) (Value.slice (ctS A o2 o3).A (ctS A o2 o3).n (ctS A o2 o3).c)) (by omega) (Value.slice (ctS A o3 o4).A (ctS A o3 o4).n (ctS A o3 o4).c)) (by omega) (Value.slice (ctS A o4 o5).A (ctS A o4 o5).n (ctS A o4 o5).c)) (by omega) (Value.slice (ctS A o5 o6).A (ctS A o5 o6).n (ctS A o5 o6).c)) (by omega) (Value.slice (ctS A o6 o7).A (ctS A o6 o7).n (ctS A o6 o7).c))
   have n8:=hide (r14_.cells7' bn)
   clear b5 b4 b3 hb bn
   go_wp2_with fail
   have n8:=n8.out
   exact bodyPost_ret (v:=.agg #[slvC (ctS A o0 o1),slvC (ctS A o1 o2),slvC (ctS A o2 o3),slvC (ctS A o3 o4),slvC (ctS A o4 o5),slvC (ctS A o5 o6),slvC (ctS A o6 o7)]) (by simp [results,Tryz.results123,go_sem,n8,slvC]) rfl ⟨rfl,hbn.out⟩
end bl_
theorem rd_ro {w:World} {g:Nat} {vs:List Value} {T:TypeId} (h:Ro w g vs.toArray T):Rd w (some ⟨g,0,none⟩) vs.length vs :=
 ⟨rfl,fun _=>⟨_,rfl,fun i v hi=>by rw [addr_flat,Nat.zero_add,h.cell,List.getElem?_toArray];exact hi⟩⟩
theorem rdp7 {w:World} {A1 A2 A3 A4 A5 A6 A7:Option Addr} {n1 n2 n3 n4 n5 n6 n7 c1 c2 c3 c4 c5 c6 c7:Nat} {L1 L2 L3 L4 L5 L6 L7:List Int}
 (r1:Rd w A1 n1 (L1.map (Value.int .u8))) (z1:A1=none→n1=0∧c1=0) (r2:Rd w A2 n2 (L2.map (Value.int .u8))) (z2:A2=none→n2=0∧c2=0) (r3:Rd w A3 n3 (L3.map (Value.int .u8))) (z3:A3=none→n3=0∧c3=0) (r4:Rd w A4 n4 (L4.map (Value.int .u8))) (z4:A4=none→n4=0∧c4=0) (r5:Rd w A5 n5 (L5.map (Value.int .u8))) (z5:A5=none→n5=0∧c5=0) (r6:Rd w A6 n6 (L6.map (Value.int .u8))) (z6:A6=none→n6=0∧c6=0) (r7:Rd w A7 n7 (L7.map (Value.int .u8))) (z7:A7=none→n7=0∧c7=0) :
 RdP w [⟨A1,n1,c1⟩,⟨A2,n2,c2⟩,⟨A3,n3,c3⟩,⟨A4,n4,c4⟩,⟨A5,n5,c5⟩,⟨A6,n6,c6⟩,⟨A7,n7,c7⟩] [L1,L2,L3,L4,L5,L6,L7]:=fun j s hj=>by
 match j,hj with
 | 0,hj=>cases hj;exact ⟨_,rfl,r1,z1⟩
 | 1,hj=>cases hj;exact ⟨_,rfl,r2,z2⟩
 | 2,hj=>cases hj;exact ⟨_,rfl,r3,z3⟩
 | 3,hj=>cases hj;exact ⟨_,rfl,r4,z4⟩
 | 4,hj=>cases hj;exact ⟨_,rfl,r5,z5⟩
 | 5,hj=>cases hj;exact ⟨_,rfl,r6,z6⟩
 | 6,hj=>cases hj;exact ⟨_,rfl,r7,z7⟩
 | (q+7),hj=>simp at hj
theorem tot_0 {a b c d x y s:Int} (h:LyC a b c d x y s):0≤totV a b c d x y s∧totV a b c d x y s<9223372036854775808:=by
 obtain ⟨⟨a0,a1⟩,⟨b0,b1⟩,⟨c0,c1⟩,⟨d0,d1⟩,⟨x0,x1⟩,⟨y0,y1⟩,hs⟩:=h
 unfold totV
 rcases hs with rfl | rfl <;> omega
namespace bl_
theorem lengthOf_yes (A:Option Addr) (n c p r:Nat) (v a b c' d x y K:Int) (w:World) (hL:LyC a b c' d x y K) (hn:n≤100000) (hr:n=p+r) (ht:totV a b c' d x y K≤r) :
 Calls Tryz.prog 122 #[cu A n c p 0 0,hdV v a b c' d x y,.int .i64 K] w fun e w'=>e=.returned (.tuple #[.int .i64 (totV a b c' d x y K),.bool true])∧Below w.heap.size w w':=by
 have R:=hide (fun w=>cu_.Rest_ok A n c p 0 w (by omega) (by omega) (by omega))
 rw [show (n:Int) - (p:Int)=(r:Int) by omega] at R
 have T:=hide (fun w=>ly_.Total_yes v a b c' d x y K r w hL ht (by omega))
 have wr_:IntKind.u64.wrap (r:Int)=(r:Int):=by rw [IntKind.wrap_u64];omega
 have hT0:=tot_0 hL
 have wt_:IntKind.i64.wrap (totV a b c' d x y K)=totV a b c' d x y K:=by rw [IntKind.wrap_i64];omega
 have d1:decide ((p:Int)<0)=false:=by simp
 have d2:decide ((n:Int)<(p:Int))=false:=by simp;omega
 have d3:decide (n<p)=false:=by simp;omega
 have h3:=hide ((Ro.new w #[.slice A n c,.int .i64 (p:Int),.int .i64 0,.int .i64 0] 51).alloc (.cells #[.int .i64 v,.int .u32 a,.int .u32 b,.int .u32 c',.int .u32 d,.int .u32 x,.int .u32 y] 55))
 have h4:=hide (show Ro ((w.alloc (.cells #[.slice A n c,.int .i64 (p:Int),.int .i64 0,.int .i64 0] 51)).alloc (.cells #[.int .i64 v,.int .u32 a,.int .u32 b,.int .u32 c',.int .u32 d,.int .u32 x,.int .u32 y] 55)) (w.heap.size+1) #[.int .i64 v,.int .u32 a,.int .u32 b,.int .u32 c',.int .u32 d,.int .u32 x,.int .u32 y] 55 by have:=Ro.new (w.alloc (.cells #[.slice A n c,.int .i64 (p:Int),.int .i64 0,.int .i64 0] 51)) #[.int .i64 v,.int .u32 a,.int .u32 b,.int .u32 c',.int .u32 d,.int .u32 x,.int .u32 y] 55;simpa using this)
 have hb:=hide (bl_alloc (bl_new w (.cells #[.slice A n c,.int .i64 (p:Int),.int .i64 0,.int .i64 0] 51)) (.cells #[.int .i64 v,.int .u32 a,.int .u32 b,.int .u32 c',.int .u32 d,.int .u32 x,.int .u32 y] 55))
 generalize totV a b c' d x y K=tt at *
 clear ht hL
 replace hr:=hide hr
 go_enter Tryz.func122,Tryz.ntmps122
 go_upto_region 1 with fail
 generalize ((w.alloc (.cells #[.slice A n c,.int .i64 (p:Int),.int .i64 0,.int .i64 0] 51)).alloc (.cells #[.int .i64 v,.int .u32 a,.int .u32 b,.int .u32 c',.int .u32 d,.int .u32 x,.int .u32 y] 55))=u at *
 obtain ⟨x0,_⟩:=ro_cf h3.out 0 (.slice A n c) rfl
 obtain ⟨x1,_⟩:=ro_cf h3.out 1 (.int .i64 (p:Int)) rfl
 go_upto_region 3 with fail
 clear x0 x1
 refine wp_region_held_drew (S:=fun w'=>Hid (Ro w' (w.heap.size) (#[.slice A n c,.int .i64 (p:Int),.int .i64 0,.int .i64 0]) 51)∧Hid (Ro w' (w.heap.size+1) (#[.int .i64 v,.int .u32 a,.int .u32 b,.int .u32 c',.int .u32 d,.int .u32 x,.int .u32 y]) 55)∧Hid (Below w.heap.size w w')) (by kernel_rfl) (⟨hide h3.out.drew,hide h4.out.drew,hide (bl_drew hb.out)⟩) (fun hHeld=>?_)
 generalize u.drew=u0 at *
 refine wpAnyH_takeD (i:=0) (d:=(some 22)) rfl rfl (by kernel_rfl) (by kernel_rfl) (by kernel_rfl) (fun _ _ _ h=>h) (yieldsIf_load_row (by rfl) 55 _ rfl (w.heap.size+1) rfl 55 #[.int .i64 v,.int .u32 a,.int .u32 b,.int .u32 c',.int .u32 d,.int .u32 x,.int .u32 y] _ (fun w hw=>hw.2.1.out) Tryz.underlying55 rfl (by kernel_rfl)) (by assumption) ?_
 try simp only [Act.put,sI1,sI2,sI3]
 refine tkV 1 (some 23) (v:=?_) ?_ ?_
 rotate_left
 ·((intro w hSw;go_simp) <;> with_reducible rfl)
 try simp only [Act.put,sI1,sI2,sI3]
 refine wpAnyH_takeD (i:=2) (d:=(some 24)) rfl rfl (by kernel_rfl) (by kernel_rfl) (by kernel_rfl) (fun _ _ _ h=>h) (yieldsIf_load_row (by rfl) 51 _ rfl (w.heap.size) rfl 51 #[.slice A n c,.int .i64 (p:Int),.int .i64 0,.int .i64 0] _ (fun w hw=>hw.1.out) Tryz.underlying51 rfl (by kernel_rfl)) (by assumption) ?_
 try simp only [Act.put,sI1,sI2,sI3]
 refine wpAnyH_ready (rs:=[3]) (by kernel_rfl) (by simp) ?_
 refine AllReadyH.cons rfl (fun K hK=>?_) (AllReadyH.nil)
 ·go_simp
  refine (R.out _).mono ?_
  rintro e v1 ⟨rfl,h1'⟩
  refine hK.out _ _ (⟨hide (hHeld.1.out.below h1'),hide (hHeld.2.1.out.below h1'),hide (bel_next hHeld.2.2.out h1')⟩) (fun hHeld=>?_)
  clear hK K h1'
  try simp only [Act.put,sI1,sI2,sI3]
  refine tkV 4 (some 26) (v:=?_) ?_ ?_
  rotate_left
  ·((intro w hSw;go_simp) <;> with_reducible rfl)
  try simp only [Act.put,sI1,sI2,sI3]
  refine wpAnyH_ready (rs:=[5]) (by kernel_rfl) (by simp) ?_
  refine AllReadyH.cons rfl (fun K hK=>?_) (AllReadyH.nil)
  ·go_simp
   refine (T.out _).mono ?_
   rintro e v2 ⟨rfl,h1'⟩
   refine hK.out _ _ (⟨hide (hHeld.1.out.below h1'),hide (hHeld.2.1.out.below h1'),hide (bel_next hHeld.2.2.out h1')⟩) (fun hHeld=>?_)
   clear hK K h1'
   try simp only [Act.put,sI1,sI2,sI3]
   refine tkV 6 (some 21) (v:=?_) ?_ ?_
   rotate_left
   ·((intro w hSw;go_simp) <;> with_reducible rfl)
   try simp only [Act.put,sI1,sI2,sI3]
   refine tkV 7 (some 28) (v:=?_) ?_ ?_
   rotate_left
   ·((intro w hSw;go_simp) <;> with_reducible rfl)
   try simp only [Act.put,sI1,sI2,sI3]
   refine tkV 8 (some 29) (v:=?_) ?_ ?_
   rotate_left
   ·((intro w hSw;go_simp) <;> with_reducible rfl)
   try simp only [Act.put,sI1,sI2,sI3]
   refine tkV 9 (some 8) (v:=?_) ?_ ?_
   rotate_left
   ·((intro w hSw;go_simp) <;> with_reducible rfl)
   try simp only [Act.put,sI1,sI2,sI3]
   refine tkV 10 (some 9) (v:=?_) ?_ ?_
   rotate_left
   ·((intro w hSw;go_simp) <;> with_reducible rfl)
   try simp only [Act.put,sI1,sI2,sI3]
   refine wpAnyH_done (by kernel_rfl) ?_ _
   have kb:=hide hHeld.2.2.out
   clear hHeld
   go_wp2
   go_ret2
   exact ⟨rfl,kb.out⟩
theorem lengthOf_no (A:Option Addr) (n c p r:Nat) (v a b c' d x y K:Int) (w:World) (hL:LyC a b c' d x y K) (hn:n≤100000) (hr:n=p+r) (ht:(r:Int)<totV a b c' d x y K) :
 Calls Tryz.prog 122 #[cu A n c p 0 0,hdV v a b c' d x y,.int .i64 K] w fun e w'=>e=.returned (.tuple #[.int .i64 0,.bool false])∧Below w.heap.size w w':=by
 have R:=hide (fun w=>cu_.Rest_ok A n c p 0 w (by omega) (by omega) (by omega))
 rw [show (n:Int) - (p:Int)=(r:Int) by omega] at R
 have T:=hide (fun w=>ly_.Total_no v a b c' d x y K r w hL (by omega) ht)
 have wr_:IntKind.u64.wrap (r:Int)=(r:Int):=by rw [IntKind.wrap_u64];omega
 have d1:decide ((p:Int)<0)=false:=by simp
 have d2:decide ((n:Int)<(p:Int))=false:=by simp;omega
 have d3:decide (n<p)=false:=by simp;omega
 have h3:=hide ((Ro.new w #[.slice A n c,.int .i64 (p:Int),.int .i64 0,.int .i64 0] 51).alloc (.cells #[.int .i64 v,.int .u32 a,.int .u32 b,.int .u32 c',.int .u32 d,.int .u32 x,.int .u32 y] 55))
 have h4:=hide (show Ro ((w.alloc (.cells #[.slice A n c,.int .i64 (p:Int),.int .i64 0,.int .i64 0] 51)).alloc (.cells #[.int .i64 v,.int .u32 a,.int .u32 b,.int .u32 c',.int .u32 d,.int .u32 x,.int .u32 y] 55)) (w.heap.size+1) #[.int .i64 v,.int .u32 a,.int .u32 b,.int .u32 c',.int .u32 d,.int .u32 x,.int .u32 y] 55 by have:=Ro.new (w.alloc (.cells #[.slice A n c,.int .i64 (p:Int),.int .i64 0,.int .i64 0] 51)) #[.int .i64 v,.int .u32 a,.int .u32 b,.int .u32 c',.int .u32 d,.int .u32 x,.int .u32 y] 55;simpa using this)
 have hb:=hide (bl_alloc (bl_new w (.cells #[.slice A n c,.int .i64 (p:Int),.int .i64 0,.int .i64 0] 51)) (.cells #[.int .i64 v,.int .u32 a,.int .u32 b,.int .u32 c',.int .u32 d,.int .u32 x,.int .u32 y] 55))
 clear ht hL
 replace hr:=hide hr
 go_enter Tryz.func122,Tryz.ntmps122
 go_upto_region 1 with fail
 generalize ((w.alloc (.cells #[.slice A n c,.int .i64 (p:Int),.int .i64 0,.int .i64 0] 51)).alloc (.cells #[.int .i64 v,.int .u32 a,.int .u32 b,.int .u32 c',.int .u32 d,.int .u32 x,.int .u32 y] 55))=u at *
 obtain ⟨x0,_⟩:=ro_cf h3.out 0 (.slice A n c) rfl
 obtain ⟨x1,_⟩:=ro_cf h3.out 1 (.int .i64 (p:Int)) rfl
 go_upto_region 3 with fail
 clear x0 x1
 refine wp_region_held_drew (S:=fun w'=>Hid (Ro w' (w.heap.size) (#[.slice A n c,.int .i64 (p:Int),.int .i64 0,.int .i64 0]) 51)∧Hid (Ro w' (w.heap.size+1) (#[.int .i64 v,.int .u32 a,.int .u32 b,.int .u32 c',.int .u32 d,.int .u32 x,.int .u32 y]) 55)∧Hid (Below w.heap.size w w')) (by kernel_rfl) (⟨hide h3.out.drew,hide h4.out.drew,hide (bl_drew hb.out)⟩) (fun hHeld=>?_)
 generalize u.drew=u0 at *
 refine wpAnyH_takeD (i:=0) (d:=(some 22)) rfl rfl (by kernel_rfl) (by kernel_rfl) (by kernel_rfl) (fun _ _ _ h=>h) (yieldsIf_load_row (by rfl) 55 _ rfl (w.heap.size+1) rfl 55 #[.int .i64 v,.int .u32 a,.int .u32 b,.int .u32 c',.int .u32 d,.int .u32 x,.int .u32 y] _ (fun w hw=>hw.2.1.out) Tryz.underlying55 rfl (by kernel_rfl)) (by assumption) ?_
 try simp only [Act.put,sI1,sI2,sI3]
 refine tkV 1 (some 23) (v:=?_) ?_ ?_
 rotate_left
 ·((intro w hSw;go_simp) <;> with_reducible rfl)
 try simp only [Act.put,sI1,sI2,sI3]
 refine wpAnyH_takeD (i:=2) (d:=(some 24)) rfl rfl (by kernel_rfl) (by kernel_rfl) (by kernel_rfl) (fun _ _ _ h=>h) (yieldsIf_load_row (by rfl) 51 _ rfl (w.heap.size) rfl 51 #[.slice A n c,.int .i64 (p:Int),.int .i64 0,.int .i64 0] _ (fun w hw=>hw.1.out) Tryz.underlying51 rfl (by kernel_rfl)) (by assumption) ?_
 try simp only [Act.put,sI1,sI2,sI3]
 refine wpAnyH_ready (rs:=[3]) (by kernel_rfl) (by simp) ?_
 refine AllReadyH.cons rfl (fun K hK=>?_) (AllReadyH.nil)
 ·go_simp
  refine (R.out _).mono ?_
  rintro e v1 ⟨rfl,h1'⟩
  refine hK.out _ _ (⟨hide (hHeld.1.out.below h1'),hide (hHeld.2.1.out.below h1'),hide (bel_next hHeld.2.2.out h1')⟩) (fun hHeld=>?_)
  clear hK K h1'
  try simp only [Act.put,sI1,sI2,sI3]
  refine tkV 4 (some 26) (v:=?_) ?_ ?_
  rotate_left
  ·((intro w hSw;go_simp) <;> with_reducible rfl)
  try simp only [Act.put,sI1,sI2,sI3]
  refine wpAnyH_ready (rs:=[5]) (by kernel_rfl) (by simp) ?_
  refine AllReadyH.cons rfl (fun K hK=>?_) (AllReadyH.nil)
  ·go_simp
   refine (T.out _).mono ?_
   rintro e v2 ⟨rfl,h1'⟩
   refine hK.out _ _ (⟨hide (hHeld.1.out.below h1'),hide (hHeld.2.1.out.below h1'),hide (bel_next hHeld.2.2.out h1')⟩) (fun hHeld=>?_)
   clear hK K h1'
   try simp only [Act.put,sI1,sI2,sI3]
   refine tkV 6 (some 21) (v:=?_) ?_ ?_
   rotate_left
   ·((intro w hSw;go_simp) <;> with_reducible rfl)
   try simp only [Act.put,sI1,sI2,sI3]
   refine tkV 7 (some 28) (v:=?_) ?_ ?_
   rotate_left
   ·((intro w hSw;go_simp) <;> with_reducible rfl)
   try simp only [Act.put,sI1,sI2,sI3]
   refine tkV 8 (some 29) (v:=?_) ?_ ?_
   rotate_left
   ·((intro w hSw;go_simp) <;> with_reducible rfl)
   try simp only [Act.put,sI1,sI2,sI3]
   refine tkV 9 (some 8) (v:=?_) ?_ ?_
   rotate_left
   ·((intro w hSw;go_simp) <;> with_reducible rfl)
   try simp only [Act.put,sI1,sI2,sI3]
   refine tkV 10 (some 9) (v:=?_) ?_ ?_
   rotate_left
   ·((intro w hSw;go_simp) <;> with_reducible rfl)
   try simp only [Act.put,sI1,sI2,sI3]
   refine wpAnyH_done (by kernel_rfl) ?_ _
   have kb:=hide hHeld.2.2.out
   clear hHeld
   go_wp2
   go_ret2
   exact ⟨rfl,kb.out⟩
theorem Encode (S:BkS) (b:Bk) (k m:Nat) (K:Int) (w:World) (hT:Tq w) (hK:K=(k:Int)) (hk:k=4∨k=8) (h:IsBk w S b) (hs:b.le 10000) (hf:b.fit k) (hm:m=(encB k b).length) :
 Calls Tryz.prog 54 #[bkV S,.int .i64 K] w fun e w'=>∃ A' c',e=.returned (.slice A' m c')∧Ow w' w.heap.size 5 A' m c' ((encB k b).map (Value.int .u8))∧Below w.heap.size w w':=by
 obtain ⟨l1,l2,l3,l4,l5,l6,l7⟩:=h.lens
 unfold Bk.le at hs
 have hlen:=encB_len k b hf.len
 have hM:m≤1000000:=by
  rw [hm,hlen]
  unfold totB tot
  rcases hk with rfl | rfl <;> omega
 have hfl:[eT k b.ti,b.ix,eTT b.ty,b.ch,eLP k b.lp,eI b.sd,eI b.ut].flatten=encB k b:=by simp [encB]
 have hmf:=hide (show m=[eT k b.ti,b.ix,eTT b.ty,b.ch,eLP k b.lp,eI b.sd,eI b.ut].flatten.length by rw [hfl];exact hm)
 replace hfl:=hide hfl
 obtain ⟨m1,hm1⟩:∃ q,q=k * S.ti.n:=⟨_,rfl⟩
 obtain ⟨m3,hm3⟩:∃ q,q=S.ty.n * 6:=⟨_,rfl⟩
 obtain ⟨m5,hm5⟩:∃ q,q=S.lp.n * (k+4):=⟨_,rfl⟩
 have E1:=hide (fun (W:World) (hb:Below w.heap.size w W)=>tr_.Encode S.ti.A S.ti.n S.ti.c m1 b.ti k K W hK hk (by omega) hm1 h.oti.1 (h.ti.below hb) h.ok.ti)
 have E3:=hide (fun (W:World) (hb:Below w.heap.size w W)=>tt_.Encode S.ty.A S.ty.n S.ty.c m3 b.ty W (by omega) hm3 h.oty.1 (h.ty.below hb) h.ok.ty)
 have E5:=hide (fun (W:World) (hb:Below w.heap.size w W)=>lp_.Encode S.lp.A S.lp.n S.lp.c m5 b.lp k K W hK hk (by omega) hm5 h.olp.1 (h.lp.below hb) h.ok.lp)
 have E6:=hide (fun (W:World) (hb:Below w.heap.size w W)=>in_.Encode S.sd.A S.sd.n S.sd.c b.sd W (hT.2.below hb) (by omega) h.osd.1 h.osd.2.1 h.osd.2.2 (h.sd.below hb))
 have E7:=hide (fun (W:World) (hb:Below w.heap.size w W)=>in_.Encode S.ut.A S.ut.n S.ut.c b.ut W (hT.2.below hb) (by omega) h.out_.1 h.out_.2.1 h.out_.2.2 (h.ut.below hb))
 have R2:=hide (fun (W:World) (hb:Below w.heap.size w W)=>h.ix.below hb)
 have R4:=hide (fun (W:World) (hb:Below w.heap.size w W)=>h.ch.below hb)
 have N2:=hide h.oix.1
 have N4:=hide h.och.1
 clear h hT hs hf hlen l1 l2 l3 l4 l5 l6 l7 hm
 replace hK:=hide hK
 replace hk:=hide hk
 replace hm1:=hide hm1
 replace hm3:=hide hm3
 replace hm5:=hide hm5
 obtain ⟨⟨A1,n1,c1⟩,⟨A2,n2,c2⟩,⟨A3,n3,c3⟩,⟨A4,n4,c4⟩,⟨A5,n5,c5⟩,⟨A6,n6,c6⟩,⟨A7,n7,c7⟩⟩:=S
 dsimp only at E1 E3 E5 E6 E7 R2 R4 N2 N4 hm1 hm3 hm5 ⊢
 have h2:=hide (Ro.new w #[.slice A1 n1 c1,.slice A2 n2 c2,.slice A3 n3 c3,.slice A4 n4 c4,.slice A5 n5 c5,.slice A6 n6 c6,.slice A7 n7 c7] 28)
 have hb:=hide (bl_new w (.cells #[.slice A1 n1 c1,.slice A2 n2 c2,.slice A3 n3 c3,.slice A4 n4 c4,.slice A5 n5 c5,.slice A6 n6 c6,.slice A7 n7 c7] 28))
 rw [← hfl.out]
 have hlf:=hide (show [eT k b.ti,b.ix,eTT b.ty,b.ch,eLP k b.lp,eI b.sd,eI b.ut].length=7 from rfl)
 generalize eT k b.ti=L1 at *
 generalize b.ix=L2 at *
 generalize eTT b.ty=L3 at *
 generalize b.ch=L4 at *
 generalize eLP k b.lp=L5 at *
 generalize eI b.sd=L6 at *
 generalize eI b.ut=L7 at *
 clear hfl
 go_enter Tryz.func54,Tryz.ntmps54
 go_upto_region 1 with fail
 generalize (w.alloc (.cells #[.slice A1 n1 c1,.slice A2 n2 c2,.slice A3 n3 c3,.slice A4 n4 c4,.slice A5 n5 c5,.slice A6 n6 c6,.slice A7 n7 c7] 28))=u at *
 refine wp_region_held_drew (S:=fun w'=>Hid (Ro w' (w.heap.size) (#[.slice A1 n1 c1,.slice A2 n2 c2,.slice A3 n3 c3,.slice A4 n4 c4,.slice A5 n5 c5,.slice A6 n6 c6,.slice A7 n7 c7]) 28)∧Hid (Below w.heap.size w w')) (by kernel_rfl) (⟨hide h2.out.drew,hide (bl_drew hb.out)⟩) (fun hHeld=>?_)
 generalize u.drew=u0 at *
 refine tkV 0 (some 5) (v:=?_) ?_ ?_
 rotate_left
 ·((intro w hSw;go_simp) <;> with_reducible rfl)
 try simp only [Act.put,sI1,sI2,sI3]
 refine tkV 1 (some 6) (v:=?_) ?_ ?_
 rotate_left
 ·((intro w hSw;obtain ⟨y0,_⟩:=ro_cf hSw.1.out 0 (.slice A1 n1 c1) rfl;go_simp) <;> with_reducible rfl)
 try simp only [Act.put,sI1,sI2,sI3]
 refine tkV 2 (some 7) (v:=?_) ?_ ?_
 rotate_left
 ·((intro w hSw;go_simp) <;> with_reducible rfl)
 try simp only [Act.put,sI1,sI2,sI3]
 refine tkV 4 (some 9) (v:=?_) ?_ ?_
 rotate_left
 ·((intro w hSw;go_simp) <;> with_reducible rfl)
 try simp only [Act.put,sI1,sI2,sI3]
 refine tkV 5 (some 10) (v:=?_) ?_ ?_
 rotate_left
 ·((intro w hSw;obtain ⟨y0,_⟩:=ro_cf hSw.1.out 1 (.slice A2 n2 c2) rfl;go_simp) <;> with_reducible rfl)
 try simp only [Act.put,sI1,sI2,sI3]
 refine tkV 6 (some 11) (v:=?_) ?_ ?_
 rotate_left
 ·((intro w hSw;go_simp) <;> with_reducible rfl)
 try simp only [Act.put,sI1,sI2,sI3]
 refine tkV 7 (some 12) (v:=?_) ?_ ?_
 rotate_left
 ·((intro w hSw;obtain ⟨y0,_⟩:=ro_cf hSw.1.out 2 (.slice A3 n3 c3) rfl;go_simp) <;> with_reducible rfl)
 try simp only [Act.put,sI1,sI2,sI3]
 refine tkV 9 (some 14) (v:=?_) ?_ ?_
 rotate_left
 ·((intro w hSw;go_simp) <;> with_reducible rfl)
 try simp only [Act.put,sI1,sI2,sI3]
 refine tkV 10 (some 15) (v:=?_) ?_ ?_
 rotate_left
 ·((intro w hSw;obtain ⟨y0,_⟩:=ro_cf hSw.1.out 3 (.slice A4 n4 c4) rfl;go_simp) <;> with_reducible rfl)
 try simp only [Act.put,sI1,sI2,sI3]
 refine tkV 11 (some 16) (v:=?_) ?_ ?_
 rotate_left
 ·((intro w hSw;go_simp) <;> with_reducible rfl)
 try simp only [Act.put,sI1,sI2,sI3]
 refine tkV 12 (some 17) (v:=?_) ?_ ?_
 rotate_left
 ·((intro w hSw;obtain ⟨y0,_⟩:=ro_cf hSw.1.out 4 (.slice A5 n5 c5) rfl;go_simp) <;> with_reducible rfl)
 try simp only [Act.put,sI1,sI2,sI3]
 refine tkV 13 (some 18) (v:=?_) ?_ ?_
 rotate_left
 ·((intro w hSw;go_simp) <;> with_reducible rfl)
 try simp only [Act.put,sI1,sI2,sI3]
 refine tkV 15 (some 20) (v:=?_) ?_ ?_
 rotate_left
 ·((intro w hSw;go_simp) <;> with_reducible rfl)
 try simp only [Act.put,sI1,sI2,sI3]
 refine tkV 16 (some 21) (v:=?_) ?_ ?_
 rotate_left
 ·((intro w hSw;obtain ⟨y0,_⟩:=ro_cf hSw.1.out 5 (.slice A6 n6 c6) rfl;go_simp) <;> with_reducible rfl)
 try simp only [Act.put,sI1,sI2,sI3]
 refine tkV 18 (some 23) (v:=?_) ?_ ?_
 rotate_left
 ·((intro w hSw;go_simp) <;> with_reducible rfl)
 try simp only [Act.put,sI1,sI2,sI3]
 refine tkV 19 (some 24) (v:=?_) ?_ ?_
 rotate_left
 ·((intro w hSw;obtain ⟨y0,_⟩:=ro_cf hSw.1.out 6 (.slice A7 n7 c7) rfl;go_simp) <;> with_reducible rfl)
 try simp only [Act.put,sI1,sI2,sI3]
 refine wpAnyH_ready (rs:=[3]) (by kernel_rfl) (by simp) ?_
 refine AllReadyH.cons rfl (fun K hK=>?_) (AllReadyH.nil)
 ·go_simp
  refine (E1.out _ hHeld.2.out).mono ?_
  rintro e v1 ⟨P1,C1,rfl,o1,h1'⟩
  replace o1:=hide o1
  refine hK.out _ _ (⟨hide (hHeld.1.out.below h1'),hide (bel_next hHeld.2.out h1')⟩) (fun hHeld=>?_)
  clear hK K h1'
  try simp only [Act.put,sI1,sI2,sI3]
  refine wpAnyH_ready (rs:=[8]) (by kernel_rfl) (by simp) ?_
  refine AllReadyH.cons rfl (fun K hK=>?_) (AllReadyH.nil)
  ·go_simp
   refine (E3.out _ hHeld.2.out).mono ?_
   rintro e v2 ⟨P3,C3,rfl,o3,h1'⟩
   replace o1:=hide (o1.out.below h1')
   replace o3:=hide o3
   refine hK.out _ _ (⟨hide (hHeld.1.out.below h1'),hide (bel_next hHeld.2.out h1')⟩) (fun hHeld=>?_)
   clear hK K h1'
   try simp only [Act.put,sI1,sI2,sI3]
   refine wpAnyH_ready (rs:=[14]) (by kernel_rfl) (by simp) ?_
   refine AllReadyH.cons rfl (fun K hK=>?_) (AllReadyH.nil)
   ·go_simp
    refine (E5.out _ hHeld.2.out).mono ?_
    rintro e v3 ⟨P5,C5,rfl,o5,h1'⟩
    replace o1:=hide (o1.out.below h1')
    replace o3:=hide (o3.out.below h1')
    replace o5:=hide o5
    refine hK.out _ _ (⟨hide (hHeld.1.out.below h1'),hide (bel_next hHeld.2.out h1')⟩) (fun hHeld=>?_)
    clear hK K h1'
    try simp only [Act.put,sI1,sI2,sI3]
    refine wpAnyH_ready (rs:=[17]) (by kernel_rfl) (by simp) ?_
    refine AllReadyH.cons rfl (fun K hK=>?_) (AllReadyH.nil)
    ·go_simp
     refine (E6.out _ hHeld.2.out).mono ?_
     rintro e v4 ⟨P6,C6,rfl,o6,h1'⟩
     replace o1:=hide (o1.out.below h1')
     replace o3:=hide (o3.out.below h1')
     replace o5:=hide (o5.out.below h1')
     replace o6:=hide o6
     refine hK.out _ _ (⟨hide (hHeld.1.out.below h1'),hide (bel_next hHeld.2.out h1')⟩) (fun hHeld=>?_)
     clear hK K h1'
     try simp only [Act.put,sI1,sI2,sI3]
     refine wpAnyH_ready (rs:=[20]) (by kernel_rfl) (by simp) ?_
     refine AllReadyH.cons rfl (fun K hK=>?_) (AllReadyH.nil)
     ·go_simp
      refine (E7.out _ hHeld.2.out).mono ?_
      rintro e v5 ⟨P7,C7,rfl,o7,h1'⟩
      replace o1:=hide (o1.out.below h1')
      replace o3:=hide (o3.out.below h1')
      replace o5:=hide (o5.out.below h1')
      replace o6:=hide (o6.out.below h1')
      replace o7:=hide o7
      refine hK.out _ _ (⟨hide (hHeld.1.out.below h1'),hide (bel_next hHeld.2.out h1')⟩) (fun hHeld=>?_)
      clear hK K h1'
      try simp only [Act.put,sI1,sI2,sI3]
      refine wpAnyH_ready (rs:=[21]) (by kernel_rfl) (by simp) ?_
      refine AllReadyH.cons rfl (fun K hK=>?_) (AllReadyH.nil)
      ·go_simp
       have lzv6:=hHeld.2.out.size
       have lbv6_0:=hHeld.1.out.lt
       have hz_q:=hide (Ro.new v5 #[.slice P1 m1 C1,.slice A2 n2 c2,.slice P3 m3 C3,.slice A4 n4 c4,.slice P5 m5 C5,.slice P6 n6 C6,.slice P7 n7 C7] 22)
       replace o1:=hide (o1.out.alloc (.cells #[.slice P1 m1 C1,.slice A2 n2 c2,.slice P3 m3 C3,.slice A4 n4 c4,.slice P5 m5 C5,.slice P6 n6 C6,.slice P7 n7 C7] 22))
       replace o3:=hide (o3.out.alloc (.cells #[.slice P1 m1 C1,.slice A2 n2 c2,.slice P3 m3 C3,.slice A4 n4 c4,.slice P5 m5 C5,.slice P6 n6 C6,.slice P7 n7 C7] 22))
       replace o5:=hide (o5.out.alloc (.cells #[.slice P1 m1 C1,.slice A2 n2 c2,.slice P3 m3 C3,.slice A4 n4 c4,.slice P5 m5 C5,.slice P6 n6 C6,.slice P7 n7 C7] 22))
       replace o6:=hide (o6.out.alloc (.cells #[.slice P1 m1 C1,.slice A2 n2 c2,.slice P3 m3 C3,.slice A4 n4 c4,.slice P5 m5 C5,.slice P6 n6 C6,.slice P7 n7 C7] 22))
       replace o7:=hide (o7.out.alloc (.cells #[.slice P1 m1 C1,.slice A2 n2 c2,.slice P3 m3 C3,.slice A4 n4 c4,.slice P5 m5 C5,.slice P6 n6 C6,.slice P7 n7 C7] 22))
       refine hK.out _ _ (⟨hide (hHeld.1.out.alloc _),hide (bl_alloc hHeld.2.out _)⟩) (fun hHeld=>?_)
       clear hK K
       generalize v5.heap.size=g_q at *
       generalize v5.alloc (.cells #[.slice P1 m1 C1,.slice A2 n2 c2,.slice P3 m3 C3,.slice A4 n4 c4,.slice P5 m5 C5,.slice P6 n6 C6,.slice P7 n7 C7] 22)=v6 at *
       try simp only [Act.put,sI1,sI2,sI3]
       refine wpAnyH_ready (rs:=[22]) (by kernel_rfl) (by simp) ?_
       refine AllReadyH.cons rfl (fun K hK=>?_) (AllReadyH.nil)
       ·go_simp
        refine (sl_.Concat (some ⟨g_q,0,none⟩) 7 7 m [⟨P1,m1,C1⟩,⟨A2,n2,c2⟩,⟨P3,m3,C3⟩,⟨A4,n4,c4⟩,⟨P5,m5,C5⟩,⟨P6,n6,C6⟩,⟨P7,n7,C7⟩] [L1,L2,L3,L4,L5,L6,L7] _ (rd_ro hz_q.out) hlf.out (rdp7 o1.out.rd o1.out.nilcap (R2.out _ hHeld.2.out) N2.out o3.out.rd o3.out.nilcap (R4.out _ hHeld.2.out) N4.out o5.out.rd o5.out.nilcap o6.out.rd o6.out.nilcap o7.out.rd o7.out.nilcap) hmf.out hM (by omega)).mono ?_
        rintro e v7 ⟨P9,C9,rfl,o9,h1'⟩
        replace o1:=hide (o1.out.below h1')
        replace o3:=hide (o3.out.below h1')
        replace o5:=hide (o5.out.below h1')
        replace o6:=hide (o6.out.below h1')
        replace o7:=hide (o7.out.below h1')
        replace o9:=hide (o9.mono (show w.heap.size≤_ from hHeld.2.out.size))
        replace hz_q:=hide (hz_q.out.below h1')
        refine hK.out _ _ (⟨hide (hHeld.1.out.below h1'),hide (bel_next hHeld.2.out h1')⟩) (fun hHeld=>?_)
        clear hK K h1'
        try simp only [Act.put,sI1,sI2,sI3]
        refine tkV 23 (some 4) (v:=?_) ?_ ?_
        rotate_left
        ·((intro w hSw;go_simp) <;> with_reducible rfl)
        try simp only [Act.put,sI1,sI2,sI3]
        refine wpAnyH_done (by kernel_rfl) ?_ _
        have kb:=hide hHeld.2.out
        clear hHeld
        go_wp2
        go_ret
        exact ⟨_,_,rfl,o9.out,kb.out⟩
end bl_
structure SecP (w:World) (s:Sl) (l:List Int):Prop where
 ok:s.ok
 rd:Rd w s.A s.n (l.map (Value.int .u8))
 by_:Bytes l
 sz:s.n≤100000
theorem SecP.below {w w':World} {s:Sl} {l:List Int} (h:SecP w s l) (hb:Below w.heap.size w w'):SecP w' s l:=⟨h.ok,h.rd.below hb,h.by_,h.sz⟩
namespace bl_
theorem V16 (A:Option Addr) (n c m:Nat) (l:List Int) (w:World) (hT:Tt w) (hn:n≤100000) (hm:n=m * 6) (hA:A=none→n=0∧c=0) (hc:n≤c) (hcm:c≤9223372036854775807) (hr:Rd w A n (l.map (Value.int .u8))) (hl:Bytes l) :
 Calls Tryz.prog 161 #[.slice A n c] w fun e w'=>∃ A' n' c',e=.returned (.tuple #[.slice A' n' c',.bool (fl6 l m)])∧(fl6 l m=true→n'=m∧Ok 3 w' w.heap.size 156 A' n' c' (tcs (dTT l m)))∧Below w.heap.size w w':=by
 refine (tt_.Decode A n c m l w hT hn hm hA hc hcm hr hl).mono ?_
 rintro e w' ⟨⟨hf,A',c',rfl,h⟩ | ⟨hf,rfl⟩,hb⟩
 ·exact ⟨A',m,c',by rw [hf],fun _=>⟨rfl,h⟩,hb⟩
 ·exact ⟨none,0,0,by rw [hf],fun h=>(by rw [hf] at h;cases h),hb⟩
theorem V18 (A:Option Addr) (n c:Nat) (l:List Int) (w:World) (hT:Ti w) (hn:n≤100000) (hA:A=none→n=0∧c=0) (hc:n≤c) (hcm:c≤9223372036854775807) (hr:Rd w A n (l.map (Value.int .u8))) (hl0:∀ x ∈ l,0≤x∧x<256) :
 Calls Tryz.prog 162 #[.slice A n c] w fun e w'=>∃ A' n' c',e=.returned (.tuple #[.slice A' n' c',.bool (fI l)])∧(fI l=true→n'=n∧Ow w' w.heap.size 4 A' n' c' (bls (dI l)))∧Below w.heap.size w w':=by
 refine (in_.Decode A n c l w hT hn hA hc hcm hr hl0).mono ?_
 rintro e w' ⟨⟨hf,A',c',rfl,h⟩ | ⟨hf,rfl⟩,hb⟩
 ·exact ⟨A',n,c',by rw [hf],fun _=>⟨rfl,h⟩,hb⟩
 ·exact ⟨none,0,0,by rw [hf],fun h=>(by rw [hf] at h;cases h),hb⟩
theorem decode (A0 A1 A2 A3 A4 A5 A6:Option Addr) (n0 c0 n1 c1 n2 c2 n3 c3 n4 c4 n5 c5 n6 c6:Nat) (l0 l1 l2 l3 l4 l5 l6:List Int) (d x c' k:Nat) (K:Int) (w:World) (hT:Tq w) (hK:K=(k:Int)) (hk:k=4∨k=8) (p0:SecP w ⟨A0,n0,c0⟩ l0) (p1:SecP w ⟨A1,n1,c1⟩ l1) (p2:SecP w ⟨A2,n2,c2⟩ l2) (p3:SecP w ⟨A3,n3,c3⟩ l3) (p4:SecP w ⟨A4,n4,c4⟩ l4) (p5:SecP w ⟨A5,n5,c5⟩ l5) (p6:SecP w ⟨A6,n6,c6⟩ l6) (e0:n0=d * k) (e2:n2=x * 6) (e4:n4=c' * (k+4)) (hok:(⟨dT k l0 d,l1,dTT l2 x,l3,dLP k l4 c',dI l5,dI l6⟩:Bk).ok) :
 Calls Tryz.prog 125 #[.agg #[.slice A0 n0 c0,.slice A1 n1 c1,.slice A2 n2 c2,.slice A3 n3 c3,.slice A4 n4 c4,.slice A5 n5 c5,.slice A6 n6 c6],.int .i64 K] w fun z w'=>(((fl6 l2 x && fI l5 && fI l6)=true∧∃ S,z=.returned (.tuple #[bkV S,.bool true])∧OwBk w' w.heap.size S ⟨dT k l0 d,l1,dTT l2 x,l3,dLP k l4 c',dI l5,dI l6⟩)∨((fl6 l2 x && fI l5 && fI l6)=false∧z=.returned (.tuple #[bkV BkS.zero,.bool false])))∧Below w.heap.size w w':=by
 have D2:=hide (fun (W:World) (hb:Below w.heap.size w W)=>V16 A2 n2 c2 x l2 W (hT.1.below hb) p2.sz e2 p2.ok.1 p2.ok.2.1 p2.ok.2.2 (p2.rd.below hb) p2.by_)
 have D5:=hide (fun (W:World) (hb:Below w.heap.size w W)=>V18 A5 n5 c5 l5 W (hT.2.below hb) p5.sz p5.ok.1 p5.ok.2.1 p5.ok.2.2 (p5.rd.below hb) p5.by_.mem)
 have D6:=hide (fun (W:World) (hb:Below w.heap.size w W)=>V18 A6 n6 c6 l6 W (hT.2.below hb) p6.sz p6.ok.1 p6.ok.2.1 p6.ok.2.2 (p6.rd.below hb) p6.by_.mem)
 have D0:=hide (fun (W:World) (hb:Below w.heap.size w W)=>tr_.Decode A0 n0 c0 d l0 k K W hK hk (by have:=p0.sz;dsimp only at this;omega) e0 p0.ok.1 p0.ok.2.1 p0.ok.2.2 (p0.rd.below hb) p0.by_)
 have D4:=hide (fun (W:World) (hb:Below w.heap.size w W)=>lp_.Decode A4 n4 c4 c' l4 k K W hK hk p4.sz e4 p4.ok.1 p4.ok.2.1 p4.ok.2.2 (p4.rd.below hb) p4.by_)
 have D1:=hide (fun (W:World) (hb:Below w.heap.size w W)=>cu_.Clone A1 n1 c1 l1 W p1.ok.1 (by have:=p1.sz;dsimp only at this;omega) (p1.rd.below hb))
 have D3:=hide (fun (W:World) (hb:Below w.heap.size w W)=>cu_.Clone A3 n3 c3 l3 W p3.ok.1 (by have:=p3.sz;dsimp only at this;omega) (p3.rd.below hb))
 have HOK:=hide hok
 obtain ⟨fA,hfA⟩:∃ f,f=fl6 l2 x:=⟨_,rfl⟩
 obtain ⟨fB,hfB⟩:∃ f,f=fI l5:=⟨_,rfl⟩
 obtain ⟨fC,hfC⟩:∃ f,f=fI l6:=⟨_,rfl⟩
 rw [← hfA] at D2 ⊢
 rw [← hfB] at D5 ⊢
 rw [← hfC] at D6 ⊢
 clear hfA hfB hfC hok hT hK hk e0 e2 e4 p0 p1 p2 p3 p4 p5 p6
 generalize dT k l0 d=M0 at *
 generalize dTT l2 x=M2 at *
 generalize dLP k l4 c'=M4 at *
 generalize dI l5=M5 at *
 generalize dI l6=M6 at *
 have h2:=hide ((Ro.new w #[.slice A0 n0 c0,.slice A1 n1 c1,.slice A2 n2 c2,.slice A3 n3 c3,.slice A4 n4 c4,.slice A5 n5 c5,.slice A6 n6 c6] 174).alloc (.cells zS7 28))
 have h4:=hide (show Ro ((w.alloc (.cells #[.slice A0 n0 c0,.slice A1 n1 c1,.slice A2 n2 c2,.slice A3 n3 c3,.slice A4 n4 c4,.slice A5 n5 c5,.slice A6 n6 c6] 174)).alloc (.cells zS7 28)) (w.heap.size+1) zS7 28 by have:=Ro.new (w.alloc (.cells #[.slice A0 n0 c0,.slice A1 n1 c1,.slice A2 n2 c2,.slice A3 n3 c3,.slice A4 n4 c4,.slice A5 n5 c5,.slice A6 n6 c6] 174)) zS7 28;simpa using this)
 have hb:=hide (bl_alloc (bl_new w (.cells #[.slice A0 n0 c0,.slice A1 n1 c1,.slice A2 n2 c2,.slice A3 n3 c3,.slice A4 n4 c4,.slice A5 n5 c5,.slice A6 n6 c6] 174)) (.cells zS7 28))
 go_enter Tryz.func125,Tryz.ntmps125
 go_upto_region 1 with fail
 generalize ((w.alloc (.cells #[.slice A0 n0 c0,.slice A1 n1 c1,.slice A2 n2 c2,.slice A3 n3 c3,.slice A4 n4 c4,.slice A5 n5 c5,.slice A6 n6 c6] 174)).alloc (.cells zS7 28))=u at *
 obtain ⟨x2,_⟩:=ro_cf h2.out 2 (.slice A2 n2 c2) rfl
 go_wp2_with fail
 clear x2
 refine (D2.out _ hb.out).mono ?_
 rintro e w1 ⟨T2,N2,E2,rfl,R_,h1⟩
 have R2:=hide (fun h=>And.intro (R_ h).1 ((R_ h).2.mono (show w.heap.size+2≤_ from h4.out.lt)))
 clear R_
 replace h2:=hide (h2.out.below h1)
 replace h4:=hide (h4.out.below h1)
 replace hb:=hide (bel_next hb.out h1)
 clear h1 D2
 obtain ⟨x5,_⟩:=ro_cf h2.out 5 (.slice A5 n5 c5) rfl
 go_wp2_with fail
 clear x5
 refine (D5.out _ hb.out).mono ?_
 rintro e w2 ⟨T5,N5,E5,rfl,R_,h1⟩
 have R5:=hide (fun h=>And.intro (R_ h).1 ((R_ h).2.mono (show w.heap.size+2≤_ from h4.out.lt)))
 clear R_
 replace R2:=hide (fun h=>And.intro (R2.out h).1 ((R2.out h).2.below h1))
 replace h2:=hide (h2.out.below h1)
 replace h4:=hide (h4.out.below h1)
 replace hb:=hide (bel_next hb.out h1)
 clear h1 D5
 obtain ⟨x6,_⟩:=ro_cf h2.out 6 (.slice A6 n6 c6) rfl
 go_wp2_with fail
 clear x6
 refine (D6.out _ hb.out).mono ?_
 rintro e w3 ⟨T6,N6,E6,rfl,R_,h1⟩
 have R6:=hide (fun h=>And.intro (R_ h).1 ((R_ h).2.mono (show w.heap.size+2≤_ from h4.out.lt)))
 clear R_
 replace R2:=hide (fun h=>And.intro (R2.out h).1 ((R2.out h).2.below h1))
 replace R5:=hide (fun h=>And.intro (R5.out h).1 ((R5.out h).2.below h1))
 replace h2:=hide (h2.out.below h1)
 replace h4:=hide (h4.out.below h1)
 replace hb:=hide (bel_next hb.out h1)
 clear h1 D6
 cases fA
 ·clear R2 R5 R6 D0 D1 D3 D4 HOK
  obtain ⟨r0,s0⟩:=ro_cf h4.out 0 (.slice none 0 0) rfl
  obtain ⟨r1,s1⟩:=ro_cf h4.out 1 (.slice none 0 0) rfl
  obtain ⟨r2,s2⟩:=ro_cf h4.out 2 (.slice none 0 0) rfl
  obtain ⟨r3,s3⟩:=ro_cf h4.out 3 (.slice none 0 0) rfl
  obtain ⟨r4,s4⟩:=ro_cf h4.out 4 (.slice none 0 0) rfl
  obtain ⟨r5,s5⟩:=ro_cf h4.out 5 (.slice none 0 0) rfl
  obtain ⟨r6,s6⟩:=ro_cf h4.out 6 (.slice none 0 0) rfl
  have k4:=ro_set7' (x0:=.slice none 0 0) (x1:=.slice none 0 0) (x2:=.slice none 0 0) (x3:=.slice none 0 0) (x4:=.slice none 0 0) (x5:=.slice none 0 0) (x6:=.slice none 0 0) h4.out
  have kb:=bl_setx7 (g:=w.heap.size+1) (x0:=.slice none 0 0) (x1:=.slice none 0 0) (x2:=.slice none 0 0) (x3:=.slice none 0 0) (x4:=.slice none 0 0) (x5:=.slice none 0 0) (x6:=.slice none 0 0) hb.out (by omega)
  clear h2 h4 hb
  obtain ⟨q0,_⟩:=ro_cf k4 0 (.slice none 0 0) rfl
  obtain ⟨q1,_⟩:=ro_cf k4 1 (.slice none 0 0) rfl
  obtain ⟨q2,_⟩:=ro_cf k4 2 (.slice none 0 0) rfl
  obtain ⟨q3,_⟩:=ro_cf k4 3 (.slice none 0 0) rfl
  obtain ⟨q4,_⟩:=ro_cf k4 4 (.slice none 0 0) rfl
  obtain ⟨q5,_⟩:=ro_cf k4 5 (.slice none 0 0) rfl
  obtain ⟨q6,_⟩:=ro_cf k4 6 (.slice none 0 0) rfl
  clear k4
  go_wp2
  exact bodyPost_ret (v:=.tuple #[bkV BkS.zero,.bool false]) (by simp [results,Tryz.results125,go_sem,BkS.zero,q0,q1,q2,q3,q4,q5,q6]) rfl ⟨.inr ⟨by simp,rfl⟩,kb⟩
 cases fB
 ·clear R2 R5 R6 D0 D1 D3 D4 HOK
  obtain ⟨r0,s0⟩:=ro_cf h4.out 0 (.slice none 0 0) rfl
  obtain ⟨r1,s1⟩:=ro_cf h4.out 1 (.slice none 0 0) rfl
  obtain ⟨r2,s2⟩:=ro_cf h4.out 2 (.slice none 0 0) rfl
  obtain ⟨r3,s3⟩:=ro_cf h4.out 3 (.slice none 0 0) rfl
  obtain ⟨r4,s4⟩:=ro_cf h4.out 4 (.slice none 0 0) rfl
  obtain ⟨r5,s5⟩:=ro_cf h4.out 5 (.slice none 0 0) rfl
  obtain ⟨r6,s6⟩:=ro_cf h4.out 6 (.slice none 0 0) rfl
  have k4:=ro_set7' (x0:=.slice none 0 0) (x1:=.slice none 0 0) (x2:=.slice none 0 0) (x3:=.slice none 0 0) (x4:=.slice none 0 0) (x5:=.slice none 0 0) (x6:=.slice none 0 0) h4.out
  have kb:=bl_setx7 (g:=w.heap.size+1) (x0:=.slice none 0 0) (x1:=.slice none 0 0) (x2:=.slice none 0 0) (x3:=.slice none 0 0) (x4:=.slice none 0 0) (x5:=.slice none 0 0) (x6:=.slice none 0 0) hb.out (by omega)
  clear h2 h4 hb
  obtain ⟨q0,_⟩:=ro_cf k4 0 (.slice none 0 0) rfl
  obtain ⟨q1,_⟩:=ro_cf k4 1 (.slice none 0 0) rfl
  obtain ⟨q2,_⟩:=ro_cf k4 2 (.slice none 0 0) rfl
  obtain ⟨q3,_⟩:=ro_cf k4 3 (.slice none 0 0) rfl
  obtain ⟨q4,_⟩:=ro_cf k4 4 (.slice none 0 0) rfl
  obtain ⟨q5,_⟩:=ro_cf k4 5 (.slice none 0 0) rfl
  obtain ⟨q6,_⟩:=ro_cf k4 6 (.slice none 0 0) rfl
  clear k4
  go_wp2
  exact bodyPost_ret (v:=.tuple #[bkV BkS.zero,.bool false]) (by simp [results,Tryz.results125,go_sem,BkS.zero,q0,q1,q2,q3,q4,q5,q6]) rfl ⟨.inr ⟨by simp,rfl⟩,kb⟩
 cases fC
 ·clear R2 R5 R6 D0 D1 D3 D4 HOK
  obtain ⟨r0,s0⟩:=ro_cf h4.out 0 (.slice none 0 0) rfl
  obtain ⟨r1,s1⟩:=ro_cf h4.out 1 (.slice none 0 0) rfl
  obtain ⟨r2,s2⟩:=ro_cf h4.out 2 (.slice none 0 0) rfl
  obtain ⟨r3,s3⟩:=ro_cf h4.out 3 (.slice none 0 0) rfl
  obtain ⟨r4,s4⟩:=ro_cf h4.out 4 (.slice none 0 0) rfl
  obtain ⟨r5,s5⟩:=ro_cf h4.out 5 (.slice none 0 0) rfl
  obtain ⟨r6,s6⟩:=ro_cf h4.out 6 (.slice none 0 0) rfl
  have k4:=ro_set7' (x0:=.slice none 0 0) (x1:=.slice none 0 0) (x2:=.slice none 0 0) (x3:=.slice none 0 0) (x4:=.slice none 0 0) (x5:=.slice none 0 0) (x6:=.slice none 0 0) h4.out
  have kb:=bl_setx7 (g:=w.heap.size+1) (x0:=.slice none 0 0) (x1:=.slice none 0 0) (x2:=.slice none 0 0) (x3:=.slice none 0 0) (x4:=.slice none 0 0) (x5:=.slice none 0 0) (x6:=.slice none 0 0) hb.out (by omega)
  clear h2 h4 hb
  obtain ⟨q0,_⟩:=ro_cf k4 0 (.slice none 0 0) rfl
  obtain ⟨q1,_⟩:=ro_cf k4 1 (.slice none 0 0) rfl
  obtain ⟨q2,_⟩:=ro_cf k4 2 (.slice none 0 0) rfl
  obtain ⟨q3,_⟩:=ro_cf k4 3 (.slice none 0 0) rfl
  obtain ⟨q4,_⟩:=ro_cf k4 4 (.slice none 0 0) rfl
  obtain ⟨q5,_⟩:=ro_cf k4 5 (.slice none 0 0) rfl
  obtain ⟨q6,_⟩:=ro_cf k4 6 (.slice none 0 0) rfl
  clear k4
  go_wp2
  exact bodyPost_ret (v:=.tuple #[bkV BkS.zero,.bool false]) (by simp [results,Tryz.results125,go_sem,BkS.zero,q0,q1,q2,q3,q4,q5,q6]) rfl ⟨.inr ⟨by simp,rfl⟩,kb⟩
 obtain ⟨z2,Q2⟩:=R2.out rfl
 obtain ⟨z5,Q5⟩:=R5.out rfl
 obtain ⟨z6,Q6⟩:=R6.out rfl
 clear R2 R5 R6
 replace z2:=z2.symm
 replace z5:=z5.symm
 replace z6:=z6.symm
 subst z2 z5 z6
 have R2:=hide Q2
 have R5:=hide Q5
 have R6:=hide Q6
 clear Q2 Q5 Q6
 go_upto_region 6 with fail
 replace R2:=hide R2.out.drew
 replace R5:=hide R5.out.drew
 replace R6:=hide R6.out.drew
 have hz_r:=hide h4.out.drew
 refine wp_region_held_drew (S:=fun w'=>Hid (Ro w' (w.heap.size) (#[.slice A0 n0 c0,.slice A1 n1 c1,.slice A2 n2 c2,.slice A3 n3 c3,.slice A4 n4 c4,.slice A5 n5 c5,.slice A6 n6 c6]) 174)∧Hid (Below w.heap.size w w')) (by kernel_rfl) (⟨hide h2.out.drew,hide (bl_drew hb.out)⟩) (fun hHeld=>?_)
 generalize w3.drew=u0 at *
 refine tkV 0 (some 41) (v:=?_) ?_ ?_
 rotate_left
 ·((intro w hSw;go_simp) <;> with_reducible rfl)
 try simp only [Act.put,sI1,sI2,sI3]
 refine tkV 1 (some 42) (v:=?_) ?_ ?_
 rotate_left
 ·((intro w hSw;obtain ⟨y0,_⟩:=ro_cf hSw.1.out 0 (.slice A0 n0 c0) rfl;go_simp) <;> with_reducible rfl)
 try simp only [Act.put,sI1,sI2,sI3]
 refine tkV 2 (some 43) (v:=?_) ?_ ?_
 rotate_left
 ·((intro w hSw;go_simp) <;> with_reducible rfl)
 try simp only [Act.put,sI1,sI2,sI3]
 refine tkV 4 (some 45) (v:=?_) ?_ ?_
 rotate_left
 ·((intro w hSw;go_simp) <;> with_reducible rfl)
 try simp only [Act.put,sI1,sI2,sI3]
 refine tkV 5 (some 46) (v:=?_) ?_ ?_
 rotate_left
 ·((intro w hSw;obtain ⟨y0,_⟩:=ro_cf hSw.1.out 1 (.slice A1 n1 c1) rfl;go_simp) <;> with_reducible rfl)
 try simp only [Act.put,sI1,sI2,sI3]
 refine tkV 7 (some 48) (v:=?_) ?_ ?_
 rotate_left
 ·((intro w hSw;go_simp) <;> with_reducible rfl)
 try simp only [Act.put,sI1,sI2,sI3]
 refine tkV 8 (some 49) (v:=?_) ?_ ?_
 rotate_left
 ·((intro w hSw;go_simp) <;> with_reducible rfl)
 try simp only [Act.put,sI1,sI2,sI3]
 refine tkV 9 (some 50) (v:=?_) ?_ ?_
 rotate_left
 ·((intro w hSw;obtain ⟨y0,_⟩:=ro_cf hSw.1.out 3 (.slice A3 n3 c3) rfl;go_simp) <;> with_reducible rfl)
 try simp only [Act.put,sI1,sI2,sI3]
 refine tkV 11 (some 52) (v:=?_) ?_ ?_
 rotate_left
 ·((intro w hSw;go_simp) <;> with_reducible rfl)
 try simp only [Act.put,sI1,sI2,sI3]
 refine tkV 12 (some 53) (v:=?_) ?_ ?_
 rotate_left
 ·((intro w hSw;obtain ⟨y0,_⟩:=ro_cf hSw.1.out 4 (.slice A4 n4 c4) rfl;go_simp) <;> with_reducible rfl)
 try simp only [Act.put,sI1,sI2,sI3]
 refine tkV 13 (some 54) (v:=?_) ?_ ?_
 rotate_left
 ·((intro w hSw;go_simp) <;> with_reducible rfl)
 try simp only [Act.put,sI1,sI2,sI3]
 refine tkV 15 (some 56) (v:=?_) ?_ ?_
 rotate_left
 ·((intro w hSw;go_simp) <;> with_reducible rfl)
 try simp only [Act.put,sI1,sI2,sI3]
 refine tkV 16 (some 57) (v:=?_) ?_ ?_
 rotate_left
 ·((intro w hSw;go_simp) <;> with_reducible rfl)
 try simp only [Act.put,sI1,sI2,sI3]
 refine wpAnyH_ready (rs:=[3]) (by kernel_rfl) (by simp) ?_
 refine AllReadyH.cons rfl (fun K hK=>?_) (AllReadyH.nil)
 ·go_simp
  refine (D0.out _ hHeld.2.out).mono ?_
  rintro e v1 ⟨T0,E0,rfl,o_,h1'⟩
  replace R2:=hide (R2.out.below h1')
  replace R5:=hide (R5.out.below h1')
  replace R6:=hide (R6.out.below h1')
  have R0:=hide (o_.mono (show w.heap.size+2≤_ from hz_r.out.lt))
  clear o_
  replace hz_r:=hide (hz_r.out.below h1')
  refine hK.out _ _ (⟨hide (hHeld.1.out.below h1'),hide (bel_next hHeld.2.out h1')⟩) (fun hHeld=>?_)
  clear hK K h1'
  try simp only [Act.put,sI1,sI2,sI3]
  refine wpAnyH_ready (rs:=[6]) (by kernel_rfl) (by simp) ?_
  refine AllReadyH.cons rfl (fun K hK=>?_) (AllReadyH.nil)
  ·go_simp
   refine (D1.out _ hHeld.2.out).mono ?_
   rintro e v2 ⟨T1,E1,rfl,o_,h1'⟩
   replace R2:=hide (R2.out.below h1')
   replace R5:=hide (R5.out.below h1')
   replace R6:=hide (R6.out.below h1')
   replace R0:=hide (R0.out.below h1')
   have R1:=hide (o_.mono (show w.heap.size+2≤_ from hz_r.out.lt))
   clear o_
   replace hz_r:=hide (hz_r.out.below h1')
   refine hK.out _ _ (⟨hide (hHeld.1.out.below h1'),hide (bel_next hHeld.2.out h1')⟩) (fun hHeld=>?_)
   clear hK K h1'
   try simp only [Act.put,sI1,sI2,sI3]
   refine wpAnyH_ready (rs:=[10]) (by kernel_rfl) (by simp) ?_
   refine AllReadyH.cons rfl (fun K hK=>?_) (AllReadyH.nil)
   ·go_simp
    refine (D3.out _ hHeld.2.out).mono ?_
    rintro e v3 ⟨T3,E3,rfl,o_,h1'⟩
    replace R2:=hide (R2.out.below h1')
    replace R5:=hide (R5.out.below h1')
    replace R6:=hide (R6.out.below h1')
    replace R0:=hide (R0.out.below h1')
    replace R1:=hide (R1.out.below h1')
    have R3:=hide (o_.mono (show w.heap.size+2≤_ from hz_r.out.lt))
    clear o_
    replace hz_r:=hide (hz_r.out.below h1')
    refine hK.out _ _ (⟨hide (hHeld.1.out.below h1'),hide (bel_next hHeld.2.out h1')⟩) (fun hHeld=>?_)
    clear hK K h1'
    try simp only [Act.put,sI1,sI2,sI3]
    refine wpAnyH_ready (rs:=[14]) (by kernel_rfl) (by simp) ?_
    refine AllReadyH.cons rfl (fun K hK=>?_) (AllReadyH.nil)
    ·go_simp
     refine (D4.out _ hHeld.2.out).mono ?_
     rintro e v4 ⟨T4,E4,rfl,o_,h1'⟩
     replace R2:=hide (R2.out.below h1')
     replace R5:=hide (R5.out.below h1')
     replace R6:=hide (R6.out.below h1')
     replace R0:=hide (R0.out.below h1')
     replace R1:=hide (R1.out.below h1')
     replace R3:=hide (R3.out.below h1')
     have R4:=hide (o_.mono (show w.heap.size+2≤_ from hz_r.out.lt))
     clear o_
     replace hz_r:=hide (hz_r.out.below h1')
     refine hK.out _ _ (⟨hide (hHeld.1.out.below h1'),hide (bel_next hHeld.2.out h1')⟩) (fun hHeld=>?_)
     clear hK K h1'
     try simp only [Act.put,sI1,sI2,sI3]
     refine tkV 17 (some 58) (v:=?_) ?_ ?_
     rotate_left
     ·((intro w hSw;go_simp) <;> with_reducible rfl)
     try simp only [Act.put,sI1,sI2,sI3]
     refine wpAnyH_ready (rs:=[18]) (by kernel_rfl) (by simp) ?_
     refine AllReadyH.cons rfl (fun K hK=>?_) (AllReadyH.nil)
     ·obtain ⟨y0,z0⟩:=ro_cf hz_r.out 0 _ rfl;obtain ⟨y1,z1⟩:=ro_cf hz_r.out 1 _ rfl;obtain ⟨y2,z2⟩:=ro_cf hz_r.out 2 _ rfl;obtain ⟨y3,z3⟩:=ro_cf hz_r.out 3 _ rfl;obtain ⟨y4,z4⟩:=ro_cf hz_r.out 4 _ rfl;obtain ⟨y5,z5⟩:=ro_cf hz_r.out 5 _ rfl;obtain ⟨y6,z6⟩:=ro_cf hz_r.out 6 _ rfl
      go_simp
      refine hK.out _ _ (⟨hide (ro_away7 (g':=w.heap.size+1) hHeld.1.out (by omega)),hide (bl_setx7 (g:=w.heap.size+1) hHeld.2.out (by omega))⟩) (fun hHeld=>?_)
      clear hK K y0 z0 y1 z1 y2 z2 y3 z3 y4 z4 y5 z5 y6 z6
      replace hz_r:=hide (ro_set7' (x0:=.slice T0 d E0) (x1:=.slice T1 n1 E1) (x2:=.slice T2 x E2) (x3:=.slice T3 n3 E3) (x4:=.slice T4 c' E4) (x5:=.slice T5 n5 E5) (x6:=.slice T6 n6 E6) hz_r.out)
      replace R0:=hide (((((((R0.out.setLow (g:=w.heap.size+1) 0 (by omega) (.slice T0 d E0)).setLow (g:=w.heap.size+1) 1 (by omega) (.slice T1 n1 E1)).setLow (g:=w.heap.size+1) 2 (by omega) (.slice T2 x E2)).setLow (g:=w.heap.size+1) 3 (by omega) (.slice T3 n3 E3)).setLow (g:=w.heap.size+1) 4 (by omega) (.slice T4 c' E4)).setLow (g:=w.heap.size+1) 5 (by omega) (.slice T5 n5 E5)).setLow (g:=w.heap.size+1) 6 (by omega) (.slice T6 n6 E6))
      replace R1:=hide (((((((R1.out.setLow (g:=w.heap.size+1) 0 (by omega) (.slice T0 d E0)).setLow (g:=w.heap.size+1) 1 (by omega) (.slice T1 n1 E1)).setLow (g:=w.heap.size+1) 2 (by omega) (.slice T2 x E2)).setLow (g:=w.heap.size+1) 3 (by omega) (.slice T3 n3 E3)).setLow (g:=w.heap.size+1) 4 (by omega) (.slice T4 c' E4)).setLow (g:=w.heap.size+1) 5 (by omega) (.slice T5 n5 E5)).setLow (g:=w.heap.size+1) 6 (by omega) (.slice T6 n6 E6))
      replace R2:=hide (((((((R2.out.setLow (g:=w.heap.size+1) 0 (by omega) (.slice T0 d E0)).setLow (g:=w.heap.size+1) 1 (by omega) (.slice T1 n1 E1)).setLow (g:=w.heap.size+1) 2 (by omega) (.slice T2 x E2)).setLow (g:=w.heap.size+1) 3 (by omega) (.slice T3 n3 E3)).setLow (g:=w.heap.size+1) 4 (by omega) (.slice T4 c' E4)).setLow (g:=w.heap.size+1) 5 (by omega) (.slice T5 n5 E5)).setLow (g:=w.heap.size+1) 6 (by omega) (.slice T6 n6 E6))
      replace R3:=hide (((((((R3.out.setLow (g:=w.heap.size+1) 0 (by omega) (.slice T0 d E0)).setLow (g:=w.heap.size+1) 1 (by omega) (.slice T1 n1 E1)).setLow (g:=w.heap.size+1) 2 (by omega) (.slice T2 x E2)).setLow (g:=w.heap.size+1) 3 (by omega) (.slice T3 n3 E3)).setLow (g:=w.heap.size+1) 4 (by omega) (.slice T4 c' E4)).setLow (g:=w.heap.size+1) 5 (by omega) (.slice T5 n5 E5)).setLow (g:=w.heap.size+1) 6 (by omega) (.slice T6 n6 E6))
      replace R4:=hide (((((((R4.out.setLow (g:=w.heap.size+1) 0 (by omega) (.slice T0 d E0)).setLow (g:=w.heap.size+1) 1 (by omega) (.slice T1 n1 E1)).setLow (g:=w.heap.size+1) 2 (by omega) (.slice T2 x E2)).setLow (g:=w.heap.size+1) 3 (by omega) (.slice T3 n3 E3)).setLow (g:=w.heap.size+1) 4 (by omega) (.slice T4 c' E4)).setLow (g:=w.heap.size+1) 5 (by omega) (.slice T5 n5 E5)).setLow (g:=w.heap.size+1) 6 (by omega) (.slice T6 n6 E6))
      replace R5:=hide (((((((R5.out.setLow (g:=w.heap.size+1) 0 (by omega) (.slice T0 d E0)).setLow (g:=w.heap.size+1) 1 (by omega) (.slice T1 n1 E1)).setLow (g:=w.heap.size+1) 2 (by omega) (.slice T2 x E2)).setLow (g:=w.heap.size+1) 3 (by omega) (.slice T3 n3 E3)).setLow (g:=w.heap.size+1) 4 (by omega) (.slice T4 c' E4)).setLow (g:=w.heap.size+1) 5 (by omega) (.slice T5 n5 E5)).setLow (g:=w.heap.size+1) 6 (by omega) (.slice T6 n6 E6))
      replace R6:=hide (((((((R6.out.setLow (g:=w.heap.size+1) 0 (by omega) (.slice T0 d E0)).setLow (g:=w.heap.size+1) 1 (by omega) (.slice T1 n1 E1)).setLow (g:=w.heap.size+1) 2 (by omega) (.slice T2 x E2)).setLow (g:=w.heap.size+1) 3 (by omega) (.slice T3 n3 E3)).setLow (g:=w.heap.size+1) 4 (by omega) (.slice T4 c' E4)).setLow (g:=w.heap.size+1) 5 (by omega) (.slice T5 n5 E5)).setLow (g:=w.heap.size+1) 6 (by omega) (.slice T6 n6 E6))
      generalize (((((((v4.setCell ⟨w.heap.size+1,0,none⟩ (.slice T0 d E0)).setCell ⟨w.heap.size+1,1,none⟩ (.slice T1 n1 E1)).setCell ⟨w.heap.size+1,2,none⟩ (.slice T2 x E2)).setCell ⟨w.heap.size+1,3,none⟩ (.slice T3 n3 E3)).setCell ⟨w.heap.size+1,4,none⟩ (.slice T4 c' E4)).setCell ⟨w.heap.size+1,5,none⟩ (.slice T5 n5 E5)).setCell ⟨w.heap.size+1,6,none⟩ (.slice T6 n6 E6))=v5 at *
      try simp only [Act.put,sI1,sI2,sI3]
      refine tkV 19 (some 5) (v:=?_) ?_ ?_
      rotate_left
      ·((intro w hSw;go_simp) <;> with_reducible rfl)
      try simp only [Act.put,sI1,sI2,sI3]
      refine wpAnyH_done (by kernel_rfl) ?_ _
      obtain ⟨r0,_⟩:=ro_cf hz_r.out 0 (.slice T0 d E0) rfl
      obtain ⟨r1,_⟩:=ro_cf hz_r.out 1 (.slice T1 n1 E1) rfl
      obtain ⟨r2,_⟩:=ro_cf hz_r.out 2 (.slice T2 x E2) rfl
      obtain ⟨r3,_⟩:=ro_cf hz_r.out 3 (.slice T3 n3 E3) rfl
      obtain ⟨r4,_⟩:=ro_cf hz_r.out 4 (.slice T4 c' E4) rfl
      obtain ⟨r5,_⟩:=ro_cf hz_r.out 5 (.slice T5 n5 E5) rfl
      obtain ⟨r6,_⟩:=ro_cf hz_r.out 6 (.slice T6 n6 E6) rfl
      have kb:=hide hHeld.2.out
      clear hHeld
      go_wp2
      exact bodyPost_ret (v:=.tuple #[bkV ⟨⟨T0,d,E0⟩,⟨T1,n1,E1⟩,⟨T2,x,E2⟩,⟨T3,n3,E3⟩,⟨T4,c',E4⟩,⟨T5,n5,E5⟩,⟨T6,n6,E6⟩⟩,.bool true]) (by simp [results,Tryz.results125,go_sem,r0,r1,r2,r3,r4,r5,r6]) rfl ⟨.inl ⟨rfl,_,rfl,⟨R0.out.mono (by omega),R1.out.mono (by omega),R2.out.mono (by omega),R3.out.mono (by omega),R4.out.mono (by omega),R5.out.mono (by omega),R6.out.mono (by omega),HOK.out⟩⟩,kb.out⟩
end bl_
namespace bl_
theorem Decode_trunc (A:Option Addr) (n c p:Nat) (v a b c' d x y K at_:Int) (w:World) (hL:LyC a b c' d x y K) (hn:n≤100000) (hp:p≤n) (ht:(n:Int) - p<totV a b c' d x y K) :
 Calls Tryz.prog 74 #[cu A n c p 0 0,hdV v a b c' d x y,.int .i64 K,.int .i64 at_] w fun z w'=>z=.returned (.tuple #[bkV BkS.zero,cu A n c p 1 n])∧Below w.heap.size w w':=by
 obtain ⟨r,hr⟩:∃ r:Nat,n=p+r:=⟨n - p,by omega⟩
 have LN:=hide (fun w=>lengthOf_no A n c p r v a b c' d x y K w hL hn hr (by omega))
 have FL:=hide (fun w=>cu_.Fail_ok A n c p 0 1 n w (by decide))
 clear hL hp ht hr
 have hb:=hide (((((Below.refl w.heap.size w).alloc (Nat.le_refl _) (.cells #[.slice A n c,.int .i64 (p:Int),.int .i64 0,.int .i64 0] 51)).alloc (by simp) (.cells #[.int .i64 v,.int .u32 a,.int .u32 b,.int .u32 c',.int .u32 d,.int .u32 x,.int .u32 y] 55)).alloc (by simp;omega) (.cells zS7 28)).alloc (by simp;omega) (.cells #[.slice none 0 0,.int .i64 0,.int .i64 0,.int .i64 0] 51))
 have h4:Ro (w.alloc (.cells #[.slice A n c,.int .i64 (p:Int),.int .i64 0,.int .i64 0] 51)) (w.heap.size) #[.slice A n c,.int .i64 (p:Int),.int .i64 0,.int .i64 0] 51:=by have:=Ro.new w #[.slice A n c,.int .i64 (p:Int),.int .i64 0,.int .i64 0] 51;simpa [Nat.add_assoc] using this
 replace h4:=h4.alloc (.cells #[.int .i64 v,.int .u32 a,.int .u32 b,.int .u32 c',.int .u32 d,.int .u32 x,.int .u32 y] 55)
 replace h4:=h4.alloc (.cells zS7 28)
 replace h4:=h4.alloc (.cells #[.slice none 0 0,.int .i64 0,.int .i64 0,.int .i64 0] 51)
 replace h4:=hide h4
 have h5:Ro ((w.alloc (.cells #[.slice A n c,.int .i64 (p:Int),.int .i64 0,.int .i64 0] 51)).alloc (.cells #[.int .i64 v,.int .u32 a,.int .u32 b,.int .u32 c',.int .u32 d,.int .u32 x,.int .u32 y] 55)) (w.heap.size+1) #[.int .i64 v,.int .u32 a,.int .u32 b,.int .u32 c',.int .u32 d,.int .u32 x,.int .u32 y] 55:=by have:=Ro.new (w.alloc (.cells #[.slice A n c,.int .i64 (p:Int),.int .i64 0,.int .i64 0] 51)) #[.int .i64 v,.int .u32 a,.int .u32 b,.int .u32 c',.int .u32 d,.int .u32 x,.int .u32 y] 55;simpa [Nat.add_assoc] using this
 replace h5:=h5.alloc (.cells zS7 28)
 replace h5:=h5.alloc (.cells #[.slice none 0 0,.int .i64 0,.int .i64 0,.int .i64 0] 51)
 replace h5:=hide h5
 have h8:Ro (((w.alloc (.cells #[.slice A n c,.int .i64 (p:Int),.int .i64 0,.int .i64 0] 51)).alloc (.cells #[.int .i64 v,.int .u32 a,.int .u32 b,.int .u32 c',.int .u32 d,.int .u32 x,.int .u32 y] 55)).alloc (.cells zS7 28)) (w.heap.size+1+1) zS7 28:=by have:=Ro.new ((w.alloc (.cells #[.slice A n c,.int .i64 (p:Int),.int .i64 0,.int .i64 0] 51)).alloc (.cells #[.int .i64 v,.int .u32 a,.int .u32 b,.int .u32 c',.int .u32 d,.int .u32 x,.int .u32 y] 55)) zS7 28;simpa [Nat.add_assoc] using this
 replace h8:=h8.alloc (.cells #[.slice none 0 0,.int .i64 0,.int .i64 0,.int .i64 0] 51)
 replace h8:=hide h8
 have h9:Ro ((((w.alloc (.cells #[.slice A n c,.int .i64 (p:Int),.int .i64 0,.int .i64 0] 51)).alloc (.cells #[.int .i64 v,.int .u32 a,.int .u32 b,.int .u32 c',.int .u32 d,.int .u32 x,.int .u32 y] 55)).alloc (.cells zS7 28)).alloc (.cells #[.slice none 0 0,.int .i64 0,.int .i64 0,.int .i64 0] 51)) (w.heap.size+1+1+1) #[.slice none 0 0,.int .i64 0,.int .i64 0,.int .i64 0] 51:=by have:=Ro.new (((w.alloc (.cells #[.slice A n c,.int .i64 (p:Int),.int .i64 0,.int .i64 0] 51)).alloc (.cells #[.int .i64 v,.int .u32 a,.int .u32 b,.int .u32 c',.int .u32 d,.int .u32 x,.int .u32 y] 55)).alloc (.cells zS7 28)) #[.slice none 0 0,.int .i64 0,.int .i64 0,.int .i64 0] 51;simpa [Nat.add_assoc] using this
 replace h9:=hide h9
 go_enter Tryz.func74,Tryz.ntmps74
 go_upto_region 1 with fail
 generalize ((((w.alloc (.cells #[.slice A n c,.int .i64 (p:Int),.int .i64 0,.int .i64 0] 51)).alloc (.cells #[.int .i64 v,.int .u32 a,.int .u32 b,.int .u32 c',.int .u32 d,.int .u32 x,.int .u32 y] 55)).alloc (.cells zS7 28)).alloc (.cells #[.slice none 0 0,.int .i64 0,.int .i64 0,.int .i64 0] 51))=u at *
 obtain ⟨x2,_⟩:=ro_cf h4.out 2 (.int .i64 0) rfl
 go_upto_region 3 with fail
 clear x2
 obtain ⟨x0,_⟩:=ro_cf h4.out 0 (.slice A n c) rfl
 obtain ⟨x1,_⟩:=ro_cf h4.out 1 (.int .i64 (p:Int)) rfl
 obtain ⟨x2,_⟩:=ro_cf h4.out 2 (.int .i64 0) rfl
 obtain ⟨x3,_⟩:=ro_cf h4.out 3 (.int .i64 0) rfl
 obtain ⟨y0,_⟩:=ro_cf h5.out 0 (.int .i64 v) rfl
 obtain ⟨y1,_⟩:=ro_cf h5.out 1 (.int .u32 a) rfl
 obtain ⟨y2,_⟩:=ro_cf h5.out 2 (.int .u32 b) rfl
 obtain ⟨y3,_⟩:=ro_cf h5.out 3 (.int .u32 c') rfl
 obtain ⟨y4,_⟩:=ro_cf h5.out 4 (.int .u32 d) rfl
 obtain ⟨y5,_⟩:=ro_cf h5.out 5 (.int .u32 x) rfl
 obtain ⟨y6,_⟩:=ro_cf h5.out 6 (.int .u32 y) rfl
 go_wp2_with fail
 clear x0 x1 x2 x3 y0 y1 y2 y3 y4 y5 y6
 refine (LN.out _).mono ?_
 rintro e w1 ⟨rfl,h1⟩
 replace h4:=hide (h4.out.below h1)
 replace h5:=hide (h5.out.below h1)
 replace h8:=hide (h8.out.below h1)
 replace h9:=hide (h9.out.below h1)
 replace hb:=hide (bel_next hb.out h1)
 clear h1
 go_upto_region 5 with fail
 obtain ⟨x0,_⟩:=ro_cf h4.out 0 (.slice A n c) rfl
 obtain ⟨x1,_⟩:=ro_cf h4.out 1 (.int .i64 (p:Int)) rfl
 obtain ⟨x2,_⟩:=ro_cf h4.out 2 (.int .i64 0) rfl
 obtain ⟨x3,_⟩:=ro_cf h4.out 3 (.int .i64 0) rfl
 obtain ⟨r0,s0⟩:=ro_cf h8.out 0 (.slice none 0 0) rfl
 obtain ⟨r1,s1⟩:=ro_cf h8.out 1 (.slice none 0 0) rfl
 obtain ⟨r2,s2⟩:=ro_cf h8.out 2 (.slice none 0 0) rfl
 obtain ⟨r3,s3⟩:=ro_cf h8.out 3 (.slice none 0 0) rfl
 obtain ⟨r4,s4⟩:=ro_cf h8.out 4 (.slice none 0 0) rfl
 obtain ⟨r5,s5⟩:=ro_cf h8.out 5 (.slice none 0 0) rfl
 obtain ⟨r6,s6⟩:=ro_cf h8.out 6 (.slice none 0 0) rfl
 obtain ⟨q0,t0⟩:=ro_cf h9.out 0 (.slice none 0 0) rfl
 obtain ⟨q1,t1⟩:=ro_cf h9.out 1 (.int .i64 0) rfl
 obtain ⟨q2,t2⟩:=ro_cf h9.out 2 (.int .i64 0) rfl
 obtain ⟨q3,t3⟩:=ro_cf h9.out 3 (.int .i64 0) rfl
 go_wp2_with fail
 clear x0 x1 x2 x3 r0 r1 r2 r3 r4 r5 r6 s0 s1 s2 s3 s4 s5 s6 q0 q1 q2 q3 t0 t1 t2 t3
 refine (FL.out _).mono ?_
 rintro e w2 ⟨rfl,h1⟩
 replace h4:=hide (h4.out.below h1)
 replace h5:=hide (h5.out.below h1)
 replace h8:=hide (h8.out.below h1)
 replace h9:=hide (h9.out.below h1)
 replace hb:=hide (bel_next hb.out h1)
 clear h1
 obtain ⟨r0,s0⟩:=ro_cf h8.out 0 (.slice none 0 0) rfl
 obtain ⟨r1,s1⟩:=ro_cf h8.out 1 (.slice none 0 0) rfl
 obtain ⟨r2,s2⟩:=ro_cf h8.out 2 (.slice none 0 0) rfl
 obtain ⟨r3,s3⟩:=ro_cf h8.out 3 (.slice none 0 0) rfl
 obtain ⟨r4,s4⟩:=ro_cf h8.out 4 (.slice none 0 0) rfl
 obtain ⟨r5,s5⟩:=ro_cf h8.out 5 (.slice none 0 0) rfl
 obtain ⟨r6,s6⟩:=ro_cf h8.out 6 (.slice none 0 0) rfl
 obtain ⟨q0,t0⟩:=ro_cf h9.out 0 (.slice none 0 0) rfl
 obtain ⟨q1,t1⟩:=ro_cf h9.out 1 (.int .i64 0) rfl
 obtain ⟨q2,t2⟩:=ro_cf h9.out 2 (.int .i64 0) rfl
 obtain ⟨q3,t3⟩:=ro_cf h9.out 3 (.int .i64 0) rfl
 have k8:=hide (ro_away4 (g':=w.heap.size+1+1+1) (x0:=.slice A n c) (x1:=.int .i64 (p:Int)) (x2:=.int .i64 1) (x3:=.int .i64 (n:Int)) (ro_set7' (x0:=.slice none 0 0) (x1:=.slice none 0 0) (x2:=.slice none 0 0) (x3:=.slice none 0 0) (x4:=.slice none 0 0) (x5:=.slice none 0 0) (x6:=.slice none 0 0) h8.out) (by omega))
 have k9:=hide (ro_set4' (x0:=.slice A n c) (x1:=.int .i64 (p:Int)) (x2:=.int .i64 1) (x3:=.int .i64 (n:Int)) (ro_away7 (g':=w.heap.size+1+1) (x0:=.slice none 0 0) (x1:=.slice none 0 0) (x2:=.slice none 0 0) (x3:=.slice none 0 0) (x4:=.slice none 0 0) (x5:=.slice none 0 0) (x6:=.slice none 0 0) h9.out (by omega)))
 have kb:=hide (bl_setx4 (g:=w.heap.size+1+1+1) (x0:=.slice A n c) (x1:=.int .i64 (p:Int)) (x2:=.int .i64 1) (x3:=.int .i64 (n:Int)) (bl_setx7 (g:=w.heap.size+1+1) (x0:=.slice none 0 0) (x1:=.slice none 0 0) (x2:=.slice none 0 0) (x3:=.slice none 0 0) (x4:=.slice none 0 0) (x5:=.slice none 0 0) (x6:=.slice none 0 0) hb.out (by omega)) (by omega))
 go_wp2
 clear r0 r1 r2 r3 r4 r5 r6 s0 s1 s2 s3 s4 s5 s6 q0 q1 q2 q3 t0 t1 t2 t3
 obtain ⟨r0,_⟩:=ro_cf k8.out 0 (.slice none 0 0) rfl
 obtain ⟨r1,_⟩:=ro_cf k8.out 1 (.slice none 0 0) rfl
 obtain ⟨r2,_⟩:=ro_cf k8.out 2 (.slice none 0 0) rfl
 obtain ⟨r3,_⟩:=ro_cf k8.out 3 (.slice none 0 0) rfl
 obtain ⟨r4,_⟩:=ro_cf k8.out 4 (.slice none 0 0) rfl
 obtain ⟨r5,_⟩:=ro_cf k8.out 5 (.slice none 0 0) rfl
 obtain ⟨r6,_⟩:=ro_cf k8.out 6 (.slice none 0 0) rfl
 obtain ⟨q0,_⟩:=ro_cf k9.out 0 (.slice A n c) rfl
 obtain ⟨q1,_⟩:=ro_cf k9.out 1 (.int .i64 (p:Int)) rfl
 obtain ⟨q2,_⟩:=ro_cf k9.out 2 (.int .i64 1) rfl
 obtain ⟨q3,_⟩:=ro_cf k9.out 3 (.int .i64 (n:Int)) rfl
 exact bodyPost_ret (v:=.tuple #[bkV BkS.zero,.agg #[.slice A n c,.int .i64 (p:Int),.int .i64 1,.int .i64 (n:Int)]]) (by simp [results,Tryz.results74,go_sem,BkS.zero,r0,r1,r2,r3,r4,r5,r6,q0,q1,q2,q3]) rfl ⟨rfl,kb.out⟩
end bl_
theorem fldC {l:List Int} {o o' n n':Nat} (h:o=o') (hn:n=n'):fld l o n=fld l o' n':=by rw [h,hn]
namespace bl_
theorem Decode_in (A:Option Addr) (n c p:Nat) (xs:List Int) (v:Int) (a b c' d x y k:Nat) (K at_:Int) (w:World) (hT:Tq w) (hK:K=(k:Int)) (hk:k=4∨k=8) (hL:LyC a b c' d x y K) (hA:A=none→n=0∧c=0) (hc:n≤c) (hcm:c≤9223372036854775807) (hr:Rd w A n (xs.map (Value.int .u8))) (hB:Bytes xs) (hn:n≤100000) (ht:p+tot k a b c' d x y≤n) :
 Calls Tryz.prog 74 #[cu A n c p 0 0,hdV v a b c' d x y,.int .i64 K,.int .i64 at_] w fun z w'=>((flB k a b c' d x y xs p=true∧∃ S,z=.returned (.tuple #[bkV S,cu A n c ((p+tot k a b c' d x y:Nat):Int) 0 0])∧OwBk w' w.heap.size S (decBk k a b c' d x y xs p))∨(flB k a b c' d x y xs p=false∧z=.returned (.tuple #[bkV BkS.zero,cu A n c ((p+tot k a b c' d x y:Nat):Int) 10 at_])))∧Below w.heap.size w w':=by
 have hl:xs.length=n:=by have:=hr.len;simpa using this
 obtain ⟨o1,ho1⟩:∃ o,o=k * d:=⟨_,rfl⟩
 obtain ⟨o2,ho2⟩:∃ o,o=o1+d:=⟨_,rfl⟩
 obtain ⟨o3,ho3⟩:∃ o,o=o2+x * 6:=⟨_,rfl⟩
 obtain ⟨o4,ho4⟩:∃ o,o=o3+y:=⟨_,rfl⟩
 obtain ⟨o5,ho5⟩:∃ o,o=o4+c' * (k+4):=⟨_,rfl⟩
 obtain ⟨o6,ho6⟩:∃ o,o=o5+b:=⟨_,rfl⟩
 obtain ⟨o7,ho7⟩:∃ o,o=o6+a:=⟨_,rfl⟩
 have etot:tot k a b c' d x y=o7:=by unfold tot;omega
 have e1:(d:Int) * K=(o1:Int):=by rw [hK,ho1,Int.natCast_mul,Int.mul_comm]
 have e2:(d:Int) * K+d=(o2:Int):=by omega
 have e3:(d:Int) * K+d+6 * x=(o3:Int):=by omega
 have e4:(d:Int) * K+d+6 * x+y=(o4:Int):=by omega
 have e5':(c':Int) * (K+4)=((c' * (k+4):Nat):Int):=by rw [hK,Int.natCast_mul];rfl
 have e5:(d:Int) * K+d+6 * x+y+c' * (K+4)=(o5:Int):=by omega
 have e6:(d:Int) * K+d+6 * x+y+c' * (K+4)+b=(o6:Int):=by omega
 have e7:(d:Int) * K+d+6 * x+y+c' * (K+4)+b+a=(o7:Int):=by omega
 have hoff:offV a b c' d x y K=.agg #[.int .u64 0,.int .u64 o1,.int .u64 o2,.int .u64 o3,.int .u64 o4,.int .u64 o5,.int .u64 o6,.int .u64 o7]:=by unfold offV;rw [e7,e6,e5,e4,e3,e2,e1]
 have htv:totV a b c' d x y K=(o7:Int):=by unfold totV;exact e7
 rw [etot] at ht ⊢
 obtain ⟨r,hrr⟩:∃ r:Nat,n=p+r:=⟨n - p,by omega⟩
 have hxl:=sec_len k a b c' d x y xs p (by rw [etot,hl];exact ht)
 have LY:=hide (fun w=>lengthOf_yes A n c p r v a b c' d x y K w hL hn hrr (by rw [htv];omega))
 have OF:=hide (fun w=>ly_.Offsets v a b c' d x y K w hL)
 rw [hoff] at OF
 rw [htv] at LY
 have hrc:=hide (hr.cut (k:=p) (cap:=c) (by omega) hc)
 rw [← List.map_drop] at hrc
 obtain ⟨A1,hA1⟩:∃ A1,A1=if c=p then A else A.map (·.add p):=⟨_,rfl⟩
 rw [← hA1] at hrc
 have hA1n:A1=none→n - p=0:=by
  intro h
  rw [h] at hA1
  split at hA1
  ·omega
  ·cases A with
   | none=>have:=hA rfl;omega
   | some q=>cases hA1
 have CT:=hide (fun w=>cut A1 (n - p) (c - p) 0 o1 o2 o3 o4 o5 o6 o7 w (by omega) (by omega) (by omega) (by omega) (by omega) (by omega) (by omega) (by omega) (by omega) (by omega))
 rw [show ((0:Nat):Int)=0 from rfl] at CT
 have hsc:∀ lo hi:Nat,lo≤hi→hi≤o7→∀ l:List Int,fld xs (p+lo) (hi - lo)=l→SecP w (ctS A1 lo hi) l:=by
  intro lo hi h1 h2 l hl'
  subst hl'
  refine ⟨ct_ok hA1n h1 (by omega) (by omega),?_,fld_bytes hB _ _,by unfold ctS;dsimp only;omega⟩
  have:=ct_rd hrc.out h1 (show hi≤n - p by omega)
  rw [← List.map_drop,← List.map_take,List.drop_drop] at this
  unfold fld
  exact this
 have p0:=hsc 0 o1 (by omega) (by omega) (sec k a b c' d x y xs p 0) (by unfold sec;exact fldC (by omega) (by omega))
 have p1:=hsc o1 o2 (by omega) (by omega) (sec k a b c' d x y xs p 1) (by unfold sec;exact fldC (by omega) (by omega))
 have p2:=hsc o2 o3 (by omega) (by omega) (sec k a b c' d x y xs p 2) (by unfold sec;exact fldC (by omega) (by omega))
 have p3:=hsc o3 o4 (by omega) (by omega) (sec k a b c' d x y xs p 3) (by unfold sec;exact fldC (by omega) (by omega))
 have p4:=hsc o4 o5 (by omega) (by omega) (sec k a b c' d x y xs p 4) (by unfold sec;exact fldC (by omega) (by omega))
 have p5:=hsc o5 o6 (by omega) (by omega) (sec k a b c' d x y xs p 5) (by unfold sec;exact fldC (by omega) (by omega))
 have p6:=hsc o6 o7 (by omega) (by omega) (sec k a b c' d x y xs p 6) (by unfold sec;exact fldC (by omega) (by omega))
 have q0:(ctS A1 0 o1).n=o1 - 0:=rfl
 have q1:(ctS A1 o1 o2).n=o2 - o1:=rfl
 have q2:(ctS A1 o2 o3).n=o3 - o2:=rfl
 have q3:(ctS A1 o3 o4).n=o4 - o3:=rfl
 have q4:(ctS A1 o4 o5).n=o5 - o4:=rfl
 have q5:(ctS A1 o5 o6).n=o6 - o5:=rfl
 have q6:(ctS A1 o6 o7).n=o7 - o6:=rfl
 generalize ctS A1 0 o1=s0 at p0 q0 CT
 generalize ctS A1 o1 o2=s1 at p1 q1 CT
 generalize ctS A1 o2 o3=s2 at p2 q2 CT
 generalize ctS A1 o3 o4=s3 at p3 q3 CT
 generalize ctS A1 o4 o5=s4 at p4 q4 CT
 generalize ctS A1 o5 o6=s5 at p5 q5 CT
 generalize ctS A1 o6 o7=s6 at p6 q6 CT
 obtain ⟨B0,Q0,z0⟩:=s0
 obtain ⟨B1,Q1,z1⟩:=s1
 obtain ⟨B2,Q2,z2⟩:=s2
 obtain ⟨B3,Q3,z3⟩:=s3
 obtain ⟨B4,Q4,z4⟩:=s4
 obtain ⟨B5,Q5,z5⟩:=s5
 obtain ⟨B6,Q6,z6⟩:=s6
 dsimp only at q0 q2 q4
 have hbk:=decBk_ok hk a b c' d x y hB p (by rw [etot,hl];exact ht)
 have DE:=hide (fun (W:World) (hb:Below w.heap.size w W)=>decode B0 B1 B2 B3 B4 B5 B6 Q0 z0 Q1 z1 Q2 z2 Q3 z3 Q4 z4 Q5 z5 Q6 z6 (sec k a b c' d x y xs p 0) (sec k a b c' d x y xs p 1) (sec k a b c' d x y xs p 2) (sec k a b c' d x y xs p 3) (sec k a b c' d x y xs p 4) (sec k a b c' d x y xs p 5) (sec k a b c' d x y xs p 6) d x c' k K W (hT.below hb) hK hk (p0.below hb) (p1.below hb) (p2.below hb) (p3.below hb) (p4.below hb) (p5.below hb) (p6.below hb) (by rw [q0,ho1,Nat.mul_comm];omega) (by omega) (by rw [q4,ho5];omega) hbk.1)
 have FB:=hide (fun w=>cu_.Fail_ok A n c (o7+p) 0 10 at_ w (by decide))
 obtain ⟨pe,hpe⟩:∃ pe:Nat,pe=p+o7:=⟨_,rfl⟩
 rw [← hpe]
 rw [show (o7:Int)+(p:Int)=(pe:Int) by omega] at FB
 have wp_:IntKind.i64.wrap ((p:Int)+(o7:Int))=(pe:Int):=by rw [IntKind.wrap_i64];omega
 have hcp:(if c=p then A else A.map (·.add p))=A1:=hA1.symm
 have hpn:p≤n:=by omega
 have hpc:p≤c:=by omega
 have hpI:(p:Int)≤(n:Int):=by omega
 unfold slvC at CT
 dsimp only at CT
 have hdec:decBk k a b c' d x y xs p=⟨dT k (sec k a b c' d x y xs p 0) d,sec k a b c' d x y xs p 1,dTT (sec k a b c' d x y xs p 2) x,sec k a b c' d x y xs p 3,dLP k (sec k a b c' d x y xs p 4) c',dI (sec k a b c' d x y xs p 5),dI (sec k a b c' d x y xs p 6)⟩:=rfl
 have hflb:flB k a b c' d x y xs p=(fl6 (sec k a b c' d x y xs p 2) x && fI (sec k a b c' d x y xs p 5) && fI (sec k a b c' d x y xs p 6)):=rfl
 rw [← hdec,← hflb] at DE
 clear hdec hflb hsc hA1n hA1 hrc hrr hxl hbk ho1 ho2 ho3 ho4 ho5 ho6 ho7 etot e1 e2 e3 e4 e5' e5 e6 e7 hoff htv hl ht hT hL hA hr hB hpe hK hk p0 q0 p1 q1 p2 q2 p3 q3 p4 q4 p5 q5 p6 q6
 generalize decBk k a b c' d x y xs p=dB at *
 generalize flB k a b c' d x y xs p=fB at *
 have hb:=hide (((((Below.refl w.heap.size w).alloc (Nat.le_refl _) (.cells #[.slice A n c,.int .i64 (p:Int),.int .i64 0,.int .i64 0] 51)).alloc (by simp) (.cells #[.int .i64 v,.int .u32 a,.int .u32 b,.int .u32 c',.int .u32 d,.int .u32 x,.int .u32 y] 55)).alloc (by simp;omega) (.cells zS7 28)).alloc (by simp;omega) (.cells #[.slice none 0 0,.int .i64 0,.int .i64 0,.int .i64 0] 51))
 have h4:Ro (w.alloc (.cells #[.slice A n c,.int .i64 (p:Int),.int .i64 0,.int .i64 0] 51)) (w.heap.size) #[.slice A n c,.int .i64 (p:Int),.int .i64 0,.int .i64 0] 51:=by have:=Ro.new w #[.slice A n c,.int .i64 (p:Int),.int .i64 0,.int .i64 0] 51;simpa [Nat.add_assoc] using this
 replace h4:=h4.alloc (.cells #[.int .i64 v,.int .u32 a,.int .u32 b,.int .u32 c',.int .u32 d,.int .u32 x,.int .u32 y] 55)
 replace h4:=h4.alloc (.cells zS7 28)
 replace h4:=h4.alloc (.cells #[.slice none 0 0,.int .i64 0,.int .i64 0,.int .i64 0] 51)
 replace h4:=hide h4
 have h5:Ro ((w.alloc (.cells #[.slice A n c,.int .i64 (p:Int),.int .i64 0,.int .i64 0] 51)).alloc (.cells #[.int .i64 v,.int .u32 a,.int .u32 b,.int .u32 c',.int .u32 d,.int .u32 x,.int .u32 y] 55)) (w.heap.size+1) #[.int .i64 v,.int .u32 a,.int .u32 b,.int .u32 c',.int .u32 d,.int .u32 x,.int .u32 y] 55:=by have:=Ro.new (w.alloc (.cells #[.slice A n c,.int .i64 (p:Int),.int .i64 0,.int .i64 0] 51)) #[.int .i64 v,.int .u32 a,.int .u32 b,.int .u32 c',.int .u32 d,.int .u32 x,.int .u32 y] 55;simpa [Nat.add_assoc] using this
 replace h5:=h5.alloc (.cells zS7 28)
 replace h5:=h5.alloc (.cells #[.slice none 0 0,.int .i64 0,.int .i64 0,.int .i64 0] 51)
 replace h5:=hide h5
 have h8:Ro (((w.alloc (.cells #[.slice A n c,.int .i64 (p:Int),.int .i64 0,.int .i64 0] 51)).alloc (.cells #[.int .i64 v,.int .u32 a,.int .u32 b,.int .u32 c',.int .u32 d,.int .u32 x,.int .u32 y] 55)).alloc (.cells zS7 28)) (w.heap.size+1+1) zS7 28:=by have:=Ro.new ((w.alloc (.cells #[.slice A n c,.int .i64 (p:Int),.int .i64 0,.int .i64 0] 51)).alloc (.cells #[.int .i64 v,.int .u32 a,.int .u32 b,.int .u32 c',.int .u32 d,.int .u32 x,.int .u32 y] 55)) zS7 28;simpa [Nat.add_assoc] using this
 replace h8:=h8.alloc (.cells #[.slice none 0 0,.int .i64 0,.int .i64 0,.int .i64 0] 51)
 replace h8:=hide h8
 have h9:Ro ((((w.alloc (.cells #[.slice A n c,.int .i64 (p:Int),.int .i64 0,.int .i64 0] 51)).alloc (.cells #[.int .i64 v,.int .u32 a,.int .u32 b,.int .u32 c',.int .u32 d,.int .u32 x,.int .u32 y] 55)).alloc (.cells zS7 28)).alloc (.cells #[.slice none 0 0,.int .i64 0,.int .i64 0,.int .i64 0] 51)) (w.heap.size+1+1+1) #[.slice none 0 0,.int .i64 0,.int .i64 0,.int .i64 0] 51:=by have:=Ro.new (((w.alloc (.cells #[.slice A n c,.int .i64 (p:Int),.int .i64 0,.int .i64 0] 51)).alloc (.cells #[.int .i64 v,.int .u32 a,.int .u32 b,.int .u32 c',.int .u32 d,.int .u32 x,.int .u32 y] 55)).alloc (.cells zS7 28)) #[.slice none 0 0,.int .i64 0,.int .i64 0,.int .i64 0] 51;simpa [Nat.add_assoc] using this
 replace h9:=hide h9
 go_enter Tryz.func74,Tryz.ntmps74
 go_upto_region 1 with fail
 generalize ((((w.alloc (.cells #[.slice A n c,.int .i64 (p:Int),.int .i64 0,.int .i64 0] 51)).alloc (.cells #[.int .i64 v,.int .u32 a,.int .u32 b,.int .u32 c',.int .u32 d,.int .u32 x,.int .u32 y] 55)).alloc (.cells zS7 28)).alloc (.cells #[.slice none 0 0,.int .i64 0,.int .i64 0,.int .i64 0] 51))=u at *
 obtain ⟨x2,_⟩:=ro_cf h4.out 2 (.int .i64 0) rfl
 go_upto_region 3 with fail
 clear x2
 obtain ⟨x0,_⟩:=ro_cf h4.out 0 (.slice A n c) rfl
 obtain ⟨x1,_⟩:=ro_cf h4.out 1 (.int .i64 (p:Int)) rfl
 obtain ⟨x2,_⟩:=ro_cf h4.out 2 (.int .i64 0) rfl
 obtain ⟨x3,_⟩:=ro_cf h4.out 3 (.int .i64 0) rfl
 obtain ⟨y0,_⟩:=ro_cf h5.out 0 (.int .i64 v) rfl
 obtain ⟨y1,_⟩:=ro_cf h5.out 1 (.int .u32 a) rfl
 obtain ⟨y2,_⟩:=ro_cf h5.out 2 (.int .u32 b) rfl
 obtain ⟨y3,_⟩:=ro_cf h5.out 3 (.int .u32 c') rfl
 obtain ⟨y4,_⟩:=ro_cf h5.out 4 (.int .u32 d) rfl
 obtain ⟨y5,_⟩:=ro_cf h5.out 5 (.int .u32 x) rfl
 obtain ⟨y6,_⟩:=ro_cf h5.out 6 (.int .u32 y) rfl
 go_wp2_with fail
 clear x0 x1 x2 x3 y0 y1 y2 y3 y4 y5 y6
 refine (LY.out _).mono ?_
 rintro e w1 ⟨rfl,h1⟩
 replace h4:=hide (h4.out.below h1)
 replace h5:=hide (h5.out.below h1)
 replace h8:=hide (h8.out.below h1)
 replace h9:=hide (h9.out.below h1)
 replace hb:=hide (bel_next hb.out h1)
 clear h1
 go_upto_region 6 with fail
 go_cut [12] (fun s12 wz=>∃ gs:Nat,s12=.pointer (some ⟨gs,0,none⟩)∧Hid (Ro wz gs #[.slice B0 Q0 z0,.slice B1 Q1 z1,.slice B2 Q2 z2,.slice B3 Q3 z3,.slice B4 Q4 z4,.slice B5 Q5 z5,.slice B6 Q6 z6] 174)∧Hid (Ro wz (w.heap.size) #[.slice A n c,.int .i64 (p:Int),.int .i64 0,.int .i64 0] 51)∧Hid (Ro wz (w.heap.size+1+1) zS7 28)∧Hid (Ro wz (w.heap.size+1+1+1) #[.slice none 0 0,.int .i64 0,.int .i64 0,.int .i64 0] 51)∧Hid (Below w.heap.size w wz)∧w.heap.size+1+1+1<gs)
 case first =>
  refine wp_region_held_drew (S:=fun w'=>Hid (Ro w' (w.heap.size) (#[.slice A n c,.int .i64 (p:Int),.int .i64 0,.int .i64 0]) 51)∧Hid (Ro w' (w.heap.size+1) (#[.int .i64 v,.int .u32 a,.int .u32 b,.int .u32 c',.int .u32 d,.int .u32 x,.int .u32 y]) 55)∧Hid (Ro w' (w.heap.size+1+1) (zS7) 28)∧Hid (Ro w' (w.heap.size+1+1+1) (#[.slice none 0 0,.int .i64 0,.int .i64 0,.int .i64 0]) 51)∧Hid (Below w.heap.size w w')) (by kernel_rfl) (⟨hide h4.out.drew,hide h5.out.drew,hide h8.out.drew,hide h9.out.drew,hide (bl_drew hb.out)⟩) (fun hHeld=>?_)
  generalize w1.drew=u0 at *
  refine tkV 0 (some 34) (v:=?_) ?_ ?_
  rotate_left
  ·((intro w hSw;go_simp) <;> with_reducible rfl)
  try simp only [Act.put,sI1,sI2,sI3]
  refine tkV 1 (some 35) (v:=?_) ?_ ?_
  rotate_left
  ·((intro w hSw;obtain ⟨y0,_⟩:=ro_cf hSw.1.out 0 (.slice A n c) rfl;go_simp) <;> with_reducible rfl)
  try simp only [Act.put,sI1,sI2,sI3]
  refine tkV 2 (some 36) (v:=?_) ?_ ?_
  rotate_left
  ·((intro w hSw;go_simp) <;> with_reducible rfl)
  try simp only [Act.put,sI1,sI2,sI3]
  refine tkV 3 (some 37) (v:=?_) ?_ ?_
  rotate_left
  ·((intro w hSw;obtain ⟨y0,_⟩:=ro_cf hSw.1.out 1 (.int .i64 (p:Int)) rfl;go_simp) <;> with_reducible rfl)
  try simp only [Act.put,sI1,sI2,sI3]
  refine tkV 4 (some 38) (v:=?_) ?_ ?_
  rotate_left
  ·((intro w hSw;go_simp) <;> with_reducible rfl)
  try simp only [Act.put,sI1,sI2,sI3]
  refine wpAnyH_takeD (i:=5) (d:=(some 39)) rfl rfl (by kernel_rfl) (by kernel_rfl) (by kernel_rfl) (fun _ _ _ h=>h) (yieldsIf_load_row (by rfl) 55 _ rfl (w.heap.size+1) rfl 55 #[.int .i64 v,.int .u32 a,.int .u32 b,.int .u32 c',.int .u32 d,.int .u32 x,.int .u32 y] _ (fun w hw=>hw.2.1.out) Tryz.underlying55 rfl (by kernel_rfl)) (by assumption) ?_
  try simp only [Act.put,sI1,sI2,sI3]
  refine tkV 6 (some 40) (v:=?_) ?_ ?_
  rotate_left
  ·((intro w hSw;go_simp) <;> with_reducible rfl)
  try simp only [Act.put,sI1,sI2,sI3]
  refine wpAnyH_ready (rs:=[7,9]) (by kernel_rfl) (by simp) ?_
  refine AllReadyH.cons rfl (fun K hK=>?_) (AllReadyH.cons rfl (fun K hK=>?_) (AllReadyH.nil))
  ·go_simp
   refine (OF.out _).mono ?_
   rintro e v1 ⟨rfl,h1'⟩
   refine hK.out _ _ (⟨hide (hHeld.1.out.below h1'),hide (hHeld.2.1.out.below h1'),hide (hHeld.2.2.1.out.below h1'),hide (hHeld.2.2.2.1.out.below h1'),hide (bel_next hHeld.2.2.2.2.out h1')⟩) (fun hHeld=>?_)
   clear hK K h1'
   try simp only [Act.put,sI1,sI2,sI3]
   refine wpAnyH_ready (rs:=[8,9]) (by kernel_rfl) (by simp) ?_
   refine AllReadyH.cons rfl (fun K hK=>?_) (AllReadyH.cons rfl (fun K hK=>?_) (AllReadyH.nil))
   ·go_simp
    refine (CT.out _).mono ?_
    rintro e v2 ⟨rfl,h1'⟩
    refine hK.out _ _ (⟨hide (hHeld.1.out.below h1'),hide (hHeld.2.1.out.below h1'),hide (hHeld.2.2.1.out.below h1'),hide (hHeld.2.2.2.1.out.below h1'),hide (bel_next hHeld.2.2.2.2.out h1')⟩) (fun hHeld=>?_)
    clear hK K h1'
    try simp only [Act.put,sI1,sI2,sI3]
    refine wpAnyH_ready (rs:=[9]) (by kernel_rfl) (by simp) ?_
    refine AllReadyH.cons rfl (fun K hK=>?_) (AllReadyH.nil)
    ·go_simp
     have lzv3:=hHeld.2.2.2.2.out.size
     have lbv3_0:=hHeld.1.out.lt
     have lbv3_1:=hHeld.2.1.out.lt
     have lbv3_2:=hHeld.2.2.1.out.lt
     have lbv3_3:=hHeld.2.2.2.1.out.lt
     have hz_s:=hide (Ro.new v2 zS7 174)
     refine hK.out _ _ (⟨hide (hHeld.1.out.alloc _),hide (hHeld.2.1.out.alloc _),hide (hHeld.2.2.1.out.alloc _),hide (hHeld.2.2.2.1.out.alloc _),hide (bl_alloc hHeld.2.2.2.2.out _)⟩) (fun hHeld=>?_)
     clear hK K
     generalize v2.heap.size=g_s at *
     generalize v2.alloc (.cells zS7 174)=v3 at *
     try simp only [Act.put,sI1,sI2,sI3]
     refine wpAnyH_ready (rs:=[10]) (by kernel_rfl) (by simp) ?_
     refine AllReadyH.cons rfl (fun K hK=>?_) (AllReadyH.nil)
     ·obtain ⟨y0,z0⟩:=ro_cf hz_s.out 0 _ rfl;obtain ⟨y1,z1⟩:=ro_cf hz_s.out 1 _ rfl;obtain ⟨y2,z2⟩:=ro_cf hz_s.out 2 _ rfl;obtain ⟨y3,z3⟩:=ro_cf hz_s.out 3 _ rfl;obtain ⟨y4,z4⟩:=ro_cf hz_s.out 4 _ rfl;obtain ⟨y5,z5⟩:=ro_cf hz_s.out 5 _ rfl;obtain ⟨y6,z6⟩:=ro_cf hz_s.out 6 _ rfl
      go_simp
      refine hK.out _ _ (⟨hide (ro_away7 (g':=g_s) hHeld.1.out (by omega)),hide (ro_away7 (g':=g_s) hHeld.2.1.out (by omega)),hide (ro_away7 (g':=g_s) hHeld.2.2.1.out (by omega)),hide (ro_away7 (g':=g_s) hHeld.2.2.2.1.out (by omega)),hide (bl_setx7 (g:=g_s) hHeld.2.2.2.2.out (by omega))⟩) (fun hHeld=>?_)
      clear hK K y0 z0 y1 z1 y2 z2 y3 z3 y4 z4 y5 z5 y6 z6
      replace hz_s:=hide (ro_set7' (x0:=.slice B0 Q0 z0) (x1:=.slice B1 Q1 z1) (x2:=.slice B2 Q2 z2) (x3:=.slice B3 Q3 z3) (x4:=.slice B4 Q4 z4) (x5:=.slice B5 Q5 z5) (x6:=.slice B6 Q6 z6) hz_s.out)
      generalize (((((((v3.setCell ⟨g_s,0,none⟩ (.slice B0 Q0 z0)).setCell ⟨g_s,1,none⟩ (.slice B1 Q1 z1)).setCell ⟨g_s,2,none⟩ (.slice B2 Q2 z2)).setCell ⟨g_s,3,none⟩ (.slice B3 Q3 z3)).setCell ⟨g_s,4,none⟩ (.slice B4 Q4 z4)).setCell ⟨g_s,5,none⟩ (.slice B5 Q5 z5)).setCell ⟨g_s,6,none⟩ (.slice B6 Q6 z6))=v4 at *
      try simp only [Act.put,sI1,sI2,sI3]
      refine wpAnyH_done (by kernel_rfl) ?_ _
      go_wp2_with fail
      go_meet
      exact ⟨_,rfl,hz_s,hHeld.1,hHeld.2.2.1,hHeld.2.2.2.1,hHeld.2.2.2.2,by omega⟩
   ·go_simp
    have lzv5:=hHeld.2.2.2.2.out.size
    have lbv5_0:=hHeld.1.out.lt
    have lbv5_1:=hHeld.2.1.out.lt
    have lbv5_2:=hHeld.2.2.1.out.lt
    have lbv5_3:=hHeld.2.2.2.1.out.lt
    have hz_s:=hide (Ro.new v1 zS7 174)
    refine hK.out _ _ (⟨hide (hHeld.1.out.alloc _),hide (hHeld.2.1.out.alloc _),hide (hHeld.2.2.1.out.alloc _),hide (hHeld.2.2.2.1.out.alloc _),hide (bl_alloc hHeld.2.2.2.2.out _)⟩) (fun hHeld=>?_)
    clear hK K
    generalize v1.heap.size=g_s at *
    generalize v1.alloc (.cells zS7 174)=v5 at *
    try simp only [Act.put,sI1,sI2,sI3]
    refine wpAnyH_ready (rs:=[8]) (by kernel_rfl) (by simp) ?_
    refine AllReadyH.cons rfl (fun K hK=>?_) (AllReadyH.nil)
    ·go_simp
     refine (CT.out _).mono ?_
     rintro e v6 ⟨rfl,h1'⟩
     replace hz_s:=hide (hz_s.out.below h1')
     refine hK.out _ _ (⟨hide (hHeld.1.out.below h1'),hide (hHeld.2.1.out.below h1'),hide (hHeld.2.2.1.out.below h1'),hide (hHeld.2.2.2.1.out.below h1'),hide (bel_next hHeld.2.2.2.2.out h1')⟩) (fun hHeld=>?_)
     clear hK K h1'
     try simp only [Act.put,sI1,sI2,sI3]
     refine wpAnyH_ready (rs:=[10]) (by kernel_rfl) (by simp) ?_
     refine AllReadyH.cons rfl (fun K hK=>?_) (AllReadyH.nil)
     ·obtain ⟨y0,z0⟩:=ro_cf hz_s.out 0 _ rfl;obtain ⟨y1,z1⟩:=ro_cf hz_s.out 1 _ rfl;obtain ⟨y2,z2⟩:=ro_cf hz_s.out 2 _ rfl;obtain ⟨y3,z3⟩:=ro_cf hz_s.out 3 _ rfl;obtain ⟨y4,z4⟩:=ro_cf hz_s.out 4 _ rfl;obtain ⟨y5,z5⟩:=ro_cf hz_s.out 5 _ rfl;obtain ⟨y6,z6⟩:=ro_cf hz_s.out 6 _ rfl
      go_simp
      refine hK.out _ _ (⟨hide (ro_away7 (g':=g_s) hHeld.1.out (by omega)),hide (ro_away7 (g':=g_s) hHeld.2.1.out (by omega)),hide (ro_away7 (g':=g_s) hHeld.2.2.1.out (by omega)),hide (ro_away7 (g':=g_s) hHeld.2.2.2.1.out (by omega)),hide (bl_setx7 (g:=g_s) hHeld.2.2.2.2.out (by omega))⟩) (fun hHeld=>?_)
      clear hK K y0 z0 y1 z1 y2 z2 y3 z3 y4 z4 y5 z5 y6 z6
      replace hz_s:=hide (ro_set7' (x0:=.slice B0 Q0 z0) (x1:=.slice B1 Q1 z1) (x2:=.slice B2 Q2 z2) (x3:=.slice B3 Q3 z3) (x4:=.slice B4 Q4 z4) (x5:=.slice B5 Q5 z5) (x6:=.slice B6 Q6 z6) hz_s.out)
      generalize (((((((v6.setCell ⟨g_s,0,none⟩ (.slice B0 Q0 z0)).setCell ⟨g_s,1,none⟩ (.slice B1 Q1 z1)).setCell ⟨g_s,2,none⟩ (.slice B2 Q2 z2)).setCell ⟨g_s,3,none⟩ (.slice B3 Q3 z3)).setCell ⟨g_s,4,none⟩ (.slice B4 Q4 z4)).setCell ⟨g_s,5,none⟩ (.slice B5 Q5 z5)).setCell ⟨g_s,6,none⟩ (.slice B6 Q6 z6))=v7 at *
      try simp only [Act.put,sI1,sI2,sI3]
      refine wpAnyH_done (by kernel_rfl) ?_ _
      go_wp2_with fail
      go_meet
      exact ⟨_,rfl,hz_s,hHeld.1,hHeld.2.2.1,hHeld.2.2.2.1,hHeld.2.2.2.2,by omega⟩
  ·go_simp
   have lzv8:=hHeld.2.2.2.2.out.size
   have lbv8_0:=hHeld.1.out.lt
   have lbv8_1:=hHeld.2.1.out.lt
   have lbv8_2:=hHeld.2.2.1.out.lt
   have lbv8_3:=hHeld.2.2.2.1.out.lt
   have hz_s:=hide (Ro.new u0 zS7 174)
   refine hK.out _ _ (⟨hide (hHeld.1.out.alloc _),hide (hHeld.2.1.out.alloc _),hide (hHeld.2.2.1.out.alloc _),hide (hHeld.2.2.2.1.out.alloc _),hide (bl_alloc hHeld.2.2.2.2.out _)⟩) (fun hHeld=>?_)
   clear hK K
   generalize u0.heap.size=g_s at *
   generalize u0.alloc (.cells zS7 174)=v8 at *
   try simp only [Act.put,sI1,sI2,sI3]
   refine wpAnyH_ready (rs:=[7]) (by kernel_rfl) (by simp) ?_
   refine AllReadyH.cons rfl (fun K hK=>?_) (AllReadyH.nil)
   ·go_simp
    refine (OF.out _).mono ?_
    rintro e v9 ⟨rfl,h1'⟩
    replace hz_s:=hide (hz_s.out.below h1')
    refine hK.out _ _ (⟨hide (hHeld.1.out.below h1'),hide (hHeld.2.1.out.below h1'),hide (hHeld.2.2.1.out.below h1'),hide (hHeld.2.2.2.1.out.below h1'),hide (bel_next hHeld.2.2.2.2.out h1')⟩) (fun hHeld=>?_)
    clear hK K h1'
    try simp only [Act.put,sI1,sI2,sI3]
    refine wpAnyH_ready (rs:=[8]) (by kernel_rfl) (by simp) ?_
    refine AllReadyH.cons rfl (fun K hK=>?_) (AllReadyH.nil)
    ·go_simp
     refine (CT.out _).mono ?_
     rintro e v10 ⟨rfl,h1'⟩
     replace hz_s:=hide (hz_s.out.below h1')
     refine hK.out _ _ (⟨hide (hHeld.1.out.below h1'),hide (hHeld.2.1.out.below h1'),hide (hHeld.2.2.1.out.below h1'),hide (hHeld.2.2.2.1.out.below h1'),hide (bel_next hHeld.2.2.2.2.out h1')⟩) (fun hHeld=>?_)
     clear hK K h1'
     try simp only [Act.put,sI1,sI2,sI3]
     refine wpAnyH_ready (rs:=[10]) (by kernel_rfl) (by simp) ?_
     refine AllReadyH.cons rfl (fun K hK=>?_) (AllReadyH.nil)
     ·obtain ⟨y0,z0⟩:=ro_cf hz_s.out 0 _ rfl;obtain ⟨y1,z1⟩:=ro_cf hz_s.out 1 _ rfl;obtain ⟨y2,z2⟩:=ro_cf hz_s.out 2 _ rfl;obtain ⟨y3,z3⟩:=ro_cf hz_s.out 3 _ rfl;obtain ⟨y4,z4⟩:=ro_cf hz_s.out 4 _ rfl;obtain ⟨y5,z5⟩:=ro_cf hz_s.out 5 _ rfl;obtain ⟨y6,z6⟩:=ro_cf hz_s.out 6 _ rfl
      go_simp
      refine hK.out _ _ (⟨hide (ro_away7 (g':=g_s) hHeld.1.out (by omega)),hide (ro_away7 (g':=g_s) hHeld.2.1.out (by omega)),hide (ro_away7 (g':=g_s) hHeld.2.2.1.out (by omega)),hide (ro_away7 (g':=g_s) hHeld.2.2.2.1.out (by omega)),hide (bl_setx7 (g:=g_s) hHeld.2.2.2.2.out (by omega))⟩) (fun hHeld=>?_)
      clear hK K y0 z0 y1 z1 y2 z2 y3 z3 y4 z4 y5 z5 y6 z6
      replace hz_s:=hide (ro_set7' (x0:=.slice B0 Q0 z0) (x1:=.slice B1 Q1 z1) (x2:=.slice B2 Q2 z2) (x3:=.slice B3 Q3 z3) (x4:=.slice B4 Q4 z4) (x5:=.slice B5 Q5 z5) (x6:=.slice B6 Q6 z6) hz_s.out)
      generalize (((((((v10.setCell ⟨g_s,0,none⟩ (.slice B0 Q0 z0)).setCell ⟨g_s,1,none⟩ (.slice B1 Q1 z1)).setCell ⟨g_s,2,none⟩ (.slice B2 Q2 z2)).setCell ⟨g_s,3,none⟩ (.slice B3 Q3 z3)).setCell ⟨g_s,4,none⟩ (.slice B4 Q4 z4)).setCell ⟨g_s,5,none⟩ (.slice B5 Q5 z5)).setCell ⟨g_s,6,none⟩ (.slice B6 Q6 z6))=v11 at *
      try simp only [Act.put,sI1,sI2,sI3]
      refine wpAnyH_done (by kernel_rfl) ?_ _
      go_wp2_with fail
      go_meet
      exact ⟨_,rfl,hz_s,hHeld.1,hHeld.2.2.1,hHeld.2.2.2.1,hHeld.2.2.2.2,by omega⟩
 case rest =>
  clear OF CT LY h4 h5 h8 h9 hb
  obtain ⟨gs,rfl,hs,h4,h8,h9,hb,gl⟩:=hcut
  rename World=>w2
  obtain ⟨x1,y1⟩:=ro_cf h4.out 1 (.int .i64 (p:Int)) rfl
  go_upto_region 8 with fail
  clear x1 y1
  have k4:Hid (Ro (w2.setCell ⟨w.heap.size,1,none⟩ (.int .i64 (pe:Int))) (w.heap.size) #[.slice A n c,.int .i64 (pe:Int),.int .i64 0,.int .i64 0] 51):=hide (by have:=ro_set h4.out 1 (.int .i64 (pe:Int));simpa using this)
  have ks:=hide (ro_set_ne hs.out (g':=w.heap.size) (by omega) 1 (.int .i64 (pe:Int)))
  have k8:=hide (ro_set_ne h8.out (g':=w.heap.size) (by omega) 1 (.int .i64 (pe:Int)))
  have k9:=hide (ro_set_ne h9.out (g':=w.heap.size) (by omega) 1 (.int .i64 (pe:Int)))
  have kb:=hide (bl_set (g:=w.heap.size) (o:=1) hb.out (Nat.le_refl _) (.int .i64 (pe:Int)))
  clear h4 hs h8 h9 hb
  generalize w2.setCell ⟨w.heap.size,1,none⟩ (.int .i64 (pe:Int))=w3 at *
  obtain ⟨x0,_⟩:=ro_cf ks.out 0 (.slice B0 Q0 z0) rfl
  obtain ⟨x1,_⟩:=ro_cf ks.out 1 (.slice B1 Q1 z1) rfl
  obtain ⟨x2,_⟩:=ro_cf ks.out 2 (.slice B2 Q2 z2) rfl
  obtain ⟨x3,_⟩:=ro_cf ks.out 3 (.slice B3 Q3 z3) rfl
  obtain ⟨x4,_⟩:=ro_cf ks.out 4 (.slice B4 Q4 z4) rfl
  obtain ⟨x5,_⟩:=ro_cf ks.out 5 (.slice B5 Q5 z5) rfl
  obtain ⟨x6,_⟩:=ro_cf ks.out 6 (.slice B6 Q6 z6) rfl
  go_wp2_with fail
  clear x0 x1 x2 x3 x4 x5 x6
  refine (DE.out _ kb.out).mono ?_
  rintro e w4 ⟨hz,h1⟩
  have lb8:=k9.out.lt
  have h4:=hide (k4.out.below h1)
  have h8:=hide (k8.out.below h1)
  have h9:=hide (k9.out.below h1)
  have hb:=hide (bel_next kb.out h1)
  clear k4 ks k8 k9 kb h1
  rcases hz with ⟨hfl,S,rfl,HO⟩ | ⟨hfl,rfl⟩
  ·obtain ⟨⟨U0,V0,X0⟩,⟨U1,V1,X1⟩,⟨U2,V2,X2⟩,⟨U3,V3,X3⟩,⟨U4,V4,X4⟩,⟨U5,V5,X5⟩,⟨U6,V6,X6⟩⟩:=S
   replace HO:=hide (HO.mono (B':=w.heap.size+1+1+1+1) lb8)
   replace hfl:=hide hfl
   go_upto_region 9 with fail
   have k13:=hide (Ro.new w4 #[.slice U0 V0 X0,.slice U1 V1 X1,.slice U2 V2 X2,.slice U3 V3 X3,.slice U4 V4 X4,.slice U5 V5 X5,.slice U6 V6 X6] 28)
   have g13l:=hide h9.out.lt
   replace h4:=hide (h4.out.alloc (.cells #[.slice U0 V0 X0,.slice U1 V1 X1,.slice U2 V2 X2,.slice U3 V3 X3,.slice U4 V4 X4,.slice U5 V5 X5,.slice U6 V6 X6] 28))
   replace h8:=hide (h8.out.alloc (.cells #[.slice U0 V0 X0,.slice U1 V1 X1,.slice U2 V2 X2,.slice U3 V3 X3,.slice U4 V4 X4,.slice U5 V5 X5,.slice U6 V6 X6] 28))
   replace h9:=hide (h9.out.alloc (.cells #[.slice U0 V0 X0,.slice U1 V1 X1,.slice U2 V2 X2,.slice U3 V3 X3,.slice U4 V4 X4,.slice U5 V5 X5,.slice U6 V6 X6] 28))
   replace HO:=hide (HO.out.below (bl_new w4 (.cells #[.slice U0 V0 X0,.slice U1 V1 X1,.slice U2 V2 X2,.slice U3 V3 X3,.slice U4 V4 X4,.slice U5 V5 X5,.slice U6 V6 X6] 28)))
   replace hb:=hide (bl_alloc hb.out (.cells #[.slice U0 V0 X0,.slice U1 V1 X1,.slice U2 V2 X2,.slice U3 V3 X3,.slice U4 V4 X4,.slice U5 V5 X5,.slice U6 V6 X6] 28))
   go_upto_region 11 with fail
   generalize w4.alloc (.cells #[.slice U0 V0 X0,.slice U1 V1 X1,.slice U2 V2 X2,.slice U3 V3 X3,.slice U4 V4 X4,.slice U5 V5 X5,.slice U6 V6 X6] 28)=w5 at *
   obtain ⟨g13,hg13⟩:∃ g,g=w4.heap.size:=⟨_,rfl⟩
   rw [← hg13] at k13 g13l ⊢
   clear hg13
   have hz_r:=hide h8.out.drew
   have hz_q:=hide h9.out.drew
   replace HO:=hide HO.out.drew
   have g13l:=g13l.out
   refine wp_region_held_drew (S:=fun w'=>Hid (Ro w' (g13) (#[.slice U0 V0 X0,.slice U1 V1 X1,.slice U2 V2 X2,.slice U3 V3 X3,.slice U4 V4 X4,.slice U5 V5 X5,.slice U6 V6 X6]) 28)∧Hid (Ro w' (w.heap.size) (#[.slice A n c,.int .i64 (pe:Int),.int .i64 0,.int .i64 0]) 51)∧Hid (Below w.heap.size w w')) (by kernel_rfl) (⟨hide k13.out.drew,hide h4.out.drew,hide (bl_drew hb.out)⟩) (fun hHeld=>?_)
   generalize w5.drew=u0 at *
   refine wpAnyH_takeD (i:=0) (d:=(some 60)) rfl rfl (by kernel_rfl) (by kernel_rfl) (by kernel_rfl) (fun _ _ _ h=>h) (yieldsIf_load_row (by rfl) 28 _ rfl (g13) rfl 28 #[.slice U0 V0 X0,.slice U1 V1 X1,.slice U2 V2 X2,.slice U3 V3 X3,.slice U4 V4 X4,.slice U5 V5 X5,.slice U6 V6 X6] _ (fun w hw=>hw.1.out) Tryz.underlying28 rfl (by kernel_rfl)) (by assumption) ?_
   try simp only [Act.put,sI1,sI2,sI3]
   refine wpAnyH_takeD (i:=1) (d:=(some 61)) rfl rfl (by kernel_rfl) (by kernel_rfl) (by kernel_rfl) (fun _ _ _ h=>h) (yieldsIf_load_row (by rfl) 51 _ rfl (w.heap.size) rfl 51 #[.slice A n c,.int .i64 (pe:Int),.int .i64 0,.int .i64 0] _ (fun w hw=>hw.2.1.out) Tryz.underlying51 rfl (by kernel_rfl)) (by assumption) ?_
   try simp only [Act.put,sI1,sI2,sI3]
   refine wpAnyH_ready (rs:=[2]) (by kernel_rfl) (by simp) ?_
   refine AllReadyH.cons rfl (fun K hK=>?_) (AllReadyH.nil)
   ·obtain ⟨y0,z0⟩:=ro_cf hz_r.out 0 _ rfl;obtain ⟨y1,z1⟩:=ro_cf hz_r.out 1 _ rfl;obtain ⟨y2,z2⟩:=ro_cf hz_r.out 2 _ rfl;obtain ⟨y3,z3⟩:=ro_cf hz_r.out 3 _ rfl;obtain ⟨y4,z4⟩:=ro_cf hz_r.out 4 _ rfl;obtain ⟨y5,z5⟩:=ro_cf hz_r.out 5 _ rfl;obtain ⟨y6,z6⟩:=ro_cf hz_r.out 6 _ rfl
    go_simp
    refine hK.out _ _ (⟨hide (ro_away7 (g':=w.heap.size+1+1) hHeld.1.out (by omega)),hide (ro_away7 (g':=w.heap.size+1+1) hHeld.2.1.out (by omega)),hide (bl_setx7 (g:=w.heap.size+1+1) hHeld.2.2.out (by omega))⟩) (fun hHeld=>?_)
    clear hK K y0 z0 y1 z1 y2 z2 y3 z3 y4 z4 y5 z5 y6 z6
    replace hz_r:=hide (ro_set7' (x0:=.slice U0 V0 X0) (x1:=.slice U1 V1 X1) (x2:=.slice U2 V2 X2) (x3:=.slice U3 V3 X3) (x4:=.slice U4 V4 X4) (x5:=.slice U5 V5 X5) (x6:=.slice U6 V6 X6) hz_r.out)
    replace hz_q:=hide (ro_away7 (g':=w.heap.size+1+1) (x0:=.slice U0 V0 X0) (x1:=.slice U1 V1 X1) (x2:=.slice U2 V2 X2) (x3:=.slice U3 V3 X3) (x4:=.slice U4 V4 X4) (x5:=.slice U5 V5 X5) (x6:=.slice U6 V6 X6) hz_q.out (by omega))
    replace HO:=hide (((((((HO.out.setLow (g:=w.heap.size+1+1) 0 (by omega) (.slice U0 V0 X0)).setLow (g:=w.heap.size+1+1) 1 (by omega) (.slice U1 V1 X1)).setLow (g:=w.heap.size+1+1) 2 (by omega) (.slice U2 V2 X2)).setLow (g:=w.heap.size+1+1) 3 (by omega) (.slice U3 V3 X3)).setLow (g:=w.heap.size+1+1) 4 (by omega) (.slice U4 V4 X4)).setLow (g:=w.heap.size+1+1) 5 (by omega) (.slice U5 V5 X5)).setLow (g:=w.heap.size+1+1) 6 (by omega) (.slice U6 V6 X6))
    generalize (((((((u0.setCell ⟨w.heap.size+1+1,0,none⟩ (.slice U0 V0 X0)).setCell ⟨w.heap.size+1+1,1,none⟩ (.slice U1 V1 X1)).setCell ⟨w.heap.size+1+1,2,none⟩ (.slice U2 V2 X2)).setCell ⟨w.heap.size+1+1,3,none⟩ (.slice U3 V3 X3)).setCell ⟨w.heap.size+1+1,4,none⟩ (.slice U4 V4 X4)).setCell ⟨w.heap.size+1+1,5,none⟩ (.slice U5 V5 X5)).setCell ⟨w.heap.size+1+1,6,none⟩ (.slice U6 V6 X6))=v1 at *
    try simp only [Act.put,sI1,sI2,sI3]
    refine wpAnyH_ready (rs:=[3]) (by kernel_rfl) (by simp) ?_
    refine AllReadyH.cons rfl (fun K hK=>?_) (AllReadyH.nil)
    ·obtain ⟨y0,z0⟩:=ro_cf hz_q.out 0 _ rfl;obtain ⟨y1,z1⟩:=ro_cf hz_q.out 1 _ rfl;obtain ⟨y2,z2⟩:=ro_cf hz_q.out 2 _ rfl;obtain ⟨y3,z3⟩:=ro_cf hz_q.out 3 _ rfl
     go_simp
     refine hK.out _ _ (⟨hide (ro_away4 (g':=w.heap.size+1+1+1) hHeld.1.out (by omega)),hide (ro_away4 (g':=w.heap.size+1+1+1) hHeld.2.1.out (by omega)),hide (bl_setx4 (g:=w.heap.size+1+1+1) hHeld.2.2.out (by omega))⟩) (fun hHeld=>?_)
     clear hK K y0 z0 y1 z1 y2 z2 y3 z3
     replace hz_q:=hide (ro_set4' (x0:=.slice A n c) (x1:=.int .i64 (pe:Int)) (x2:=.int .i64 0) (x3:=.int .i64 0) hz_q.out)
     replace hz_r:=hide (ro_away4 (g':=w.heap.size+1+1+1) (x0:=.slice A n c) (x1:=.int .i64 (pe:Int)) (x2:=.int .i64 0) (x3:=.int .i64 0) hz_r.out (by omega))
     replace HO:=hide ((((HO.out.setLow (g:=w.heap.size+1+1+1) 0 (by omega) (.slice A n c)).setLow (g:=w.heap.size+1+1+1) 1 (by omega) (.int .i64 (pe:Int))).setLow (g:=w.heap.size+1+1+1) 2 (by omega) (.int .i64 0)).setLow (g:=w.heap.size+1+1+1) 3 (by omega) (.int .i64 0))
     generalize ((((v1.setCell ⟨w.heap.size+1+1+1,0,none⟩ (.slice A n c)).setCell ⟨w.heap.size+1+1+1,1,none⟩ (.int .i64 (pe:Int))).setCell ⟨w.heap.size+1+1+1,2,none⟩ (.int .i64 0)).setCell ⟨w.heap.size+1+1+1,3,none⟩ (.int .i64 0))=v2 at *
     try simp only [Act.put,sI1,sI2,sI3]
     refine wpAnyH_done (by kernel_rfl) ?_ _
     obtain ⟨r0,_⟩:=ro_cf hz_r.out 0 (.slice U0 V0 X0) rfl
     obtain ⟨r1,_⟩:=ro_cf hz_r.out 1 (.slice U1 V1 X1) rfl
     obtain ⟨r2,_⟩:=ro_cf hz_r.out 2 (.slice U2 V2 X2) rfl
     obtain ⟨r3,_⟩:=ro_cf hz_r.out 3 (.slice U3 V3 X3) rfl
     obtain ⟨r4,_⟩:=ro_cf hz_r.out 4 (.slice U4 V4 X4) rfl
     obtain ⟨r5,_⟩:=ro_cf hz_r.out 5 (.slice U5 V5 X5) rfl
     obtain ⟨r6,_⟩:=ro_cf hz_r.out 6 (.slice U6 V6 X6) rfl
     obtain ⟨q0,_⟩:=ro_cf hz_q.out 0 (.slice A n c) rfl
     obtain ⟨q1,_⟩:=ro_cf hz_q.out 1 (.int .i64 (pe:Int)) rfl
     obtain ⟨q2,_⟩:=ro_cf hz_q.out 2 (.int .i64 0) rfl
     obtain ⟨q3,_⟩:=ro_cf hz_q.out 3 (.int .i64 0) rfl
     go_wp2
     exact bodyPost_ret (v:=.tuple #[bkV ⟨⟨U0,V0,X0⟩,⟨U1,V1,X1⟩,⟨U2,V2,X2⟩,⟨U3,V3,X3⟩,⟨U4,V4,X4⟩,⟨U5,V5,X5⟩,⟨U6,V6,X6⟩⟩,.agg #[.slice A n c,.int .i64 (pe:Int),.int .i64 0,.int .i64 0]]) (by simp [results,Tryz.results74,go_sem,r0,r1,r2,r3,r4,r5,r6,q0,q1,q2,q3]) rfl ⟨.inl ⟨hfl.out,_,rfl,HO.out.mono (by omega)⟩,hHeld.2.2.out⟩
  ·replace hfl:=hide hfl
   dsimp only [BkS.zero]
   go_upto_region 9 with fail
   have g13l:=h9.out.lt
   replace h4:=hide (h4.out.alloc (.cells zS7 28))
   replace h8:=hide (h8.out.alloc (.cells zS7 28))
   replace h9:=hide (h9.out.alloc (.cells zS7 28))
   replace hb:=hide (bl_alloc hb.out (.cells zS7 28))
   generalize w4.alloc (.cells zS7 28)=w5 at *
   go_upto_region 10 with fail
   obtain ⟨x0,_⟩:=ro_cf h4.out 0 (.slice A n c) rfl
   obtain ⟨x1,_⟩:=ro_cf h4.out 1 (.int .i64 (pe:Int)) rfl
   obtain ⟨x2,_⟩:=ro_cf h4.out 2 (.int .i64 0) rfl
   obtain ⟨x3,_⟩:=ro_cf h4.out 3 (.int .i64 0) rfl
   go_wp2_with fail
   clear x0 x1 x2 x3
   refine (FB.out _).mono ?_
   rintro e w6 ⟨rfl,h1⟩
   replace h8:=hide (h8.out.below h1)
   replace h9:=hide (h9.out.below h1)
   replace hb:=hide (bel_next hb.out h1)
   clear h1 h4
   obtain ⟨r0,s0⟩:=ro_cf h8.out 0 (.slice none 0 0) rfl
   obtain ⟨r1,s1⟩:=ro_cf h8.out 1 (.slice none 0 0) rfl
   obtain ⟨r2,s2⟩:=ro_cf h8.out 2 (.slice none 0 0) rfl
   obtain ⟨r3,s3⟩:=ro_cf h8.out 3 (.slice none 0 0) rfl
   obtain ⟨r4,s4⟩:=ro_cf h8.out 4 (.slice none 0 0) rfl
   obtain ⟨r5,s5⟩:=ro_cf h8.out 5 (.slice none 0 0) rfl
   obtain ⟨r6,s6⟩:=ro_cf h8.out 6 (.slice none 0 0) rfl
   obtain ⟨q0,t0⟩:=ro_cf h9.out 0 (.slice none 0 0) rfl
   obtain ⟨q1,t1⟩:=ro_cf h9.out 1 (.int .i64 0) rfl
   obtain ⟨q2,t2⟩:=ro_cf h9.out 2 (.int .i64 0) rfl
   obtain ⟨q3,t3⟩:=ro_cf h9.out 3 (.int .i64 0) rfl
   have k8:=hide (ro_away4 (g':=w.heap.size+1+1+1) (x0:=.slice A n c) (x1:=.int .i64 (pe:Int)) (x2:=.int .i64 10) (x3:=.int .i64 at_) (ro_set7' (x0:=.slice none 0 0) (x1:=.slice none 0 0) (x2:=.slice none 0 0) (x3:=.slice none 0 0) (x4:=.slice none 0 0) (x5:=.slice none 0 0) (x6:=.slice none 0 0) h8.out) (by omega))
   have k9:=hide (ro_set4' (x0:=.slice A n c) (x1:=.int .i64 (pe:Int)) (x2:=.int .i64 10) (x3:=.int .i64 at_) (ro_away7 (g':=w.heap.size+1+1) (x0:=.slice none 0 0) (x1:=.slice none 0 0) (x2:=.slice none 0 0) (x3:=.slice none 0 0) (x4:=.slice none 0 0) (x5:=.slice none 0 0) (x6:=.slice none 0 0) h9.out (by omega)))
   have kb:=hide (bl_setx4 (g:=w.heap.size+1+1+1) (x0:=.slice A n c) (x1:=.int .i64 (pe:Int)) (x2:=.int .i64 10) (x3:=.int .i64 at_) (bl_setx7 (g:=w.heap.size+1+1) (x0:=.slice none 0 0) (x1:=.slice none 0 0) (x2:=.slice none 0 0) (x3:=.slice none 0 0) (x4:=.slice none 0 0) (x5:=.slice none 0 0) (x6:=.slice none 0 0) hb.out (by omega)) (by omega))
   go_wp2
   clear r0 r1 r2 r3 r4 r5 r6 s0 s1 s2 s3 s4 s5 s6 q0 q1 q2 q3 t0 t1 t2 t3
   obtain ⟨r0,_⟩:=ro_cf k8.out 0 (.slice none 0 0) rfl
   obtain ⟨r1,_⟩:=ro_cf k8.out 1 (.slice none 0 0) rfl
   obtain ⟨r2,_⟩:=ro_cf k8.out 2 (.slice none 0 0) rfl
   obtain ⟨r3,_⟩:=ro_cf k8.out 3 (.slice none 0 0) rfl
   obtain ⟨r4,_⟩:=ro_cf k8.out 4 (.slice none 0 0) rfl
   obtain ⟨r5,_⟩:=ro_cf k8.out 5 (.slice none 0 0) rfl
   obtain ⟨r6,_⟩:=ro_cf k8.out 6 (.slice none 0 0) rfl
   obtain ⟨q0,_⟩:=ro_cf k9.out 0 (.slice A n c) rfl
   obtain ⟨q1,_⟩:=ro_cf k9.out 1 (.int .i64 (pe:Int)) rfl
   obtain ⟨q2,_⟩:=ro_cf k9.out 2 (.int .i64 10) rfl
   obtain ⟨q3,_⟩:=ro_cf k9.out 3 (.int .i64 at_) rfl
   exact bodyPost_ret (v:=.tuple #[bkV BkS.zero,.agg #[.slice A n c,.int .i64 (pe:Int),.int .i64 10,.int .i64 at_]]) (by simp [results,Tryz.results74,go_sem,BkS.zero,r0,r1,r2,r3,r4,r5,r6,q0,q1,q2,q3]) rfl ⟨.inr ⟨hfl.out,rfl⟩,kb.out⟩
theorem Decode (A:Option Addr) (n c p:Nat) (xs:List Int) (v:Int) (a b c' d x y k:Nat) (K at_:Int) (w:World) (hT:Tq w) (hK:K=(k:Int)) (hk:k=4∨k=8) (hL:LyC a b c' d x y K) (hA:A=none→n=0∧c=0) (hc:n≤c) (hcm:c≤9223372036854775807) (hr:Rd w A n (xs.map (Value.int .u8))) (hB:Bytes xs) (hn:n≤100000) (hp:p≤n) :
 Calls Tryz.prog 74 #[cu A n c p 0 0,hdV v a b c' d x y,.int .i64 K,.int .i64 at_] w fun z w'=>∃ S Q P e t,(Q,P,e,t)=decB k a b c' d x y xs p at_∧z=.returned (.tuple #[bkV S,cu A n c P e t])∧OwBk w' w.heap.size S Q∧Below w.heap.size w w':=by
 have hl:xs.length=n:=by have:=hr.len;simpa using this
 have htt:totV a b c' d x y K=((tot k a b c' d x y:Nat):Int):=by
  subst hK
  unfold totV tot
  simp only [Int.natCast_add,Int.natCast_mul]
  have h1:(d:Int) * (k:Int)=(k:Int) * (d:Int):=Int.mul_comm _ _
  have h2:((4:Nat):Int)=4:=rfl
  have h3:((6:Nat):Int)=6:=rfl
  rw [h1,h2,h3]
  omega
 have zero_ow:∀ {w:World} {B:Nat},B≤w.heap.size→OwBk w B BkS.zero Bk.zero:=fun h=>⟨Ow.nil h _,Ow.nil h _,Ok.nil h _ _,Ow.nil h _,Ok.nil h _ _,Ow.nil h _,Ow.nil h _,Bk.zero_ok⟩
 by_cases ht:p+tot k a b c' d x y≤n
 ·refine (Decode_in A n c p xs v a b c' d x y k K at_ w hT hK hk hL hA hc hcm hr hB hn ht).mono ?_
  rintro z w' ⟨⟨hf,S,rfl,h⟩ | ⟨hf,rfl⟩,hb⟩
  ·exact ⟨S,_,_,_,_,by unfold decB;rw [if_neg (by omega),if_pos hf],rfl,h,hb⟩
  ·exact ⟨BkS.zero,_,_,_,_,by unfold decB;rw [if_neg (by omega),if_neg (by rw [hf];simp)],rfl,zero_ow hb.size,hb⟩
 ·refine (Decode_trunc A n c p v a b c' d x y K at_ w hL hn hp (by rw [htt];omega)).mono ?_
  rintro z w' ⟨rfl,hb⟩
  exact ⟨BkS.zero,_,_,_,_,by unfold decB;rw [if_pos (by omega),hl],rfl,zero_ow hb.size,hb⟩
end bl_
theorem ow_setNe {w:World} {b:Nat} {e:TypeId} {A:Option Addr} {n k:Nat} {xs:List Value} (h:Ow w b e A n k xs) {g:Nat} (hg:some g≠(Value.slice A n k).ownBlock) (o:Nat) (u:Value):Ow (w.setCell ⟨g,o,none⟩ u) b e A n k xs :=
 ⟨by have:=h.1;simpa [World.setCell] using this,ownsRow_setCell_other h.2 (a:=⟨g,o,none⟩) (fun h'=>hg h'.symm) u⟩
theorem ok_setNe {s:Nat} {w:World} {b:Nat} {e:TypeId} {A:Option Addr} {n k:Nat} {xs:List Value} (h:Ok s w b e A n k xs) {g:Nat} (hg:some g≠(Value.slice A n k).ownBlock) (o:Nat) (u:Value):Ok s (w.setCell ⟨g,o,none⟩ u) b e A n k xs :=
 ⟨by have:=h.1;simpa [World.setCell] using this,ownsRow_setCell_other h.2 (a:=⟨g,o,none⟩) (fun h'=>hg h'.symm) u⟩
theorem ro_grown {w w':World} {g:Nat} {vs:Array Value} {T:TypeId} {A:Option Addr} (h:Ro w g vs T) (hg:w.grownBy w' (oB A)) (hd:oB A≠some g):Ro w' g vs T:=(hg.block g h.lt (fun h'=>hd h'.symm)).trans h
theorem ow_ne_ro {w:World} {b:Nat} {e:TypeId} {A:Option Addr} {n c g:Nat} {xs:List Value} {vs:Array Value} {T:TypeId} (h:Ow w b e A n c xs) (hr:Ro w g vs T) (ht:e≠T):oB A≠some g:=by
 intro e'
 rcases h.2.2 with ⟨h0,_⟩ | ⟨g',cap,cur,e1,_,hc,_⟩
 ·injection h0 with h0
  subst h0
  cases e'
 ·injection e1 with e1
  subst e1
  have hg:g'=g:=by injection e'
  subst hg
  unfold Ro at hr
  rw [hr] at hc
  injection hc with hc
  injection hc with _ hc _
  exact ht hc.symm
structure NeS (S:BkS) (g:Nat):Prop where
 ti:some g≠(Value.slice S.ti.A S.ti.n S.ti.c).ownBlock
 ix:some g≠(Value.slice S.ix.A S.ix.n S.ix.c).ownBlock
 ty:some g≠(Value.slice S.ty.A S.ty.n S.ty.c).ownBlock
 ch:some g≠(Value.slice S.ch.A S.ch.n S.ch.c).ownBlock
 lp:some g≠(Value.slice S.lp.A S.lp.n S.lp.c).ownBlock
 sd:some g≠(Value.slice S.sd.A S.sd.n S.sd.c).ownBlock
 ut:some g≠(Value.slice S.ut.A S.ut.n S.ut.c).ownBlock
section
variable {w:World} {B g:Nat} {S:BkS} {b:Bk}
theorem OwBk.setNe (h:OwBk w B S b) (hg:NeS S g) (o:Nat) (u:Value):OwBk (w.setCell ⟨g,o,none⟩ u) B S b :=
 ⟨ow_setNe h.ti hg.ti o u,ow_setNe h.ix hg.ix o u,ok_setNe h.ty hg.ty o u,ow_setNe h.ch hg.ch o u,ok_setNe h.lp hg.lp o u,ow_setNe h.sd hg.sd o u,ow_setNe h.ut hg.ut o u,h.ok⟩
theorem OwBk.away4 (h:OwBk w B S b) (hg:NeS S g) (x0 x1 x2 x3:Value):OwBk ((((w.setCell ⟨g,0,none⟩ x0).setCell ⟨g,1,none⟩ x1).setCell ⟨g,2,none⟩ x2).setCell ⟨g,3,none⟩ x3) B S b :=
 ((((h.setNe hg 0 x0).setNe hg 1 x1).setNe hg 2 x2).setNe hg 3 x3)
end
namespace bl_
theorem zero_ow {w:World} {B:Nat} (h:B≤w.heap.size):OwBk w B BkS.zero Bk.zero :=
 ⟨Ow.nil h _,Ow.nil h _,Ok.nil h _ _,Ow.nil h _,Ok.nil h _ _,Ow.nil h _,Ow.nil h _,Bk.zero_ok⟩
end bl_
namespace r19_
end r19_
end Go.Proofs.YtpapfpcehlhgeaaGreatDoor
