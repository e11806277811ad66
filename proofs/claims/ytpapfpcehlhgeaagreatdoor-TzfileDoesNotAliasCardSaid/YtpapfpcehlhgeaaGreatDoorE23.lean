/-
  Texts of mine in one file: Law21. Their conditions stand in the theorems.
-/
import Derived.Test.YtpapfpcehlhgeaaGreatDoorE22
import Derived.Lib.SlBytesConst
import Derived.Deep.RegionHeld3
import Derived.Deep.DeepCutAuto
namespace Go.Proofs.YtpapfpcehlhgeaaGreatDoor
set_option linter.unusedVariables false
set_option linter.unusedSimpArgs false
set_option maxRecDepth 100000
set_option maxHeartbeats 16000000
open Go.ChangeShapes Go.WideShapes Go.ChangeAt Go.RowKit
theorem lit_slok (g n:Nat) (h:n≤9223372036854775807):(Sl.mk (some ⟨g,0,none⟩) n n).ok:=⟨fun h=>(by cases h),Nat.le_refl _,h⟩
theorem nil_slok:(Sl.mk none 0 0).ok:=⟨fun _=>⟨rfl,rfl⟩,Nat.le_refl _,by decide⟩
theorem is_nil (W:World):IsBk W ⟨⟨none,0,0⟩,⟨none,0,0⟩,⟨none,0,0⟩,⟨none,0,0⟩,⟨none,0,0⟩,⟨none,0,0⟩,⟨none,0,0⟩⟩ Bk.zero:=⟨nil_slok,nil_slok,nil_slok,nil_slok,nil_slok,nil_slok,nil_slok,Rd.none_ _,Rd.none_ _,Rk.none_ 3 _,Rd.none_ _,Rk.none_ 2 _,Rd.none_ _,Rd.none_ _,Bk.zero_ok⟩
theorem mkT1 (w:World):(Instr.makeSlice 24 (.int .i64 1) (.int .i64 1)).run Tryz.prog w=.ok (.slice (some ⟨w.heap.size,0,none⟩) 1 1) (w.alloc (.cells #[.int .i32 0,.bool false,.int .u8 0] 156)):=by
 obtain ⟨i,hi,hz,hsz,hbb⟩:=info_parts (show (Tryz.prog.info? 156).map (fun i=>(i.zero,i.size,i.bytes))=some (some (.agg #[.int .i32 0,.bool false,.int .u8 0]),3,8) by kernel_rfl)
 have hr:=run_make (P:=Tryz.prog) w 24 156 i _ Tryz.underlying24 hi hz .i64 .i64 1 1 (by omega) (by omega) (by rw [hbb];decide) (by decide)
 rw [hsz] at hr
 rw [show madeCells (Value.agg #[.int .i32 0,.bool false,.int .u8 0]).cells (Int.toNat 1 * 3)=#[.int .i32 0,.bool false,.int .u8 0] from by simp [madeCells,Array.range,Value.cells];rfl] at hr
 exact hr
theorem aMk0 (w:World):∃ S:BkS,Ro (((w.alloc (.cells #[.int .i32 0,.bool false,.int .u8 0] 156)).alloc (.cells #[.int .u8 0] 5)).alloc (.cells #[.slice none 0 0,.slice none 0 0,.slice (some ⟨w.heap.size,0,none⟩) 1 1,.slice (some ⟨w.heap.size+1,0,none⟩) 1 1,.slice none 0 0,.slice none 0 0,.slice none 0 0] 28)) (w.heap.size+1+1) #[.slice S.ti.A S.ti.n S.ti.c,.slice S.ix.A S.ix.n S.ix.c,.slice S.ty.A S.ty.n S.ty.c,.slice S.ch.A S.ch.n S.ch.c,.slice S.lp.A S.lp.n S.lp.c,.slice S.sd.A S.sd.n S.sd.c,.slice S.ut.A S.ut.n S.ut.c] 28∧IsBk (((w.alloc (.cells #[.int .i32 0,.bool false,.int .u8 0] 156)).alloc (.cells #[.int .u8 0] 5)).alloc (.cells #[.slice none 0 0,.slice none 0 0,.slice (some ⟨w.heap.size,0,none⟩) 1 1,.slice (some ⟨w.heap.size+1,0,none⟩) 1 1,.slice none 0 0,.slice none 0 0,.slice none 0 0] 28)) S sB:=by
 refine ⟨⟨⟨none,0,0⟩,⟨none,0,0⟩,⟨(some ⟨w.heap.size,0,none⟩),1,1⟩,⟨(some ⟨w.heap.size+1,0,none⟩),1,1⟩,⟨none,0,0⟩,⟨none,0,0⟩,⟨none,0,0⟩⟩,?_,?_⟩
 ·have:=Ro.new ((w.alloc (.cells #[.int .i32 0,.bool false,.int .u8 0] 156)).alloc (.cells #[.int .u8 0] 5)) #[.slice none 0 0,.slice none 0 0,.slice (some ⟨w.heap.size,0,none⟩) 1 1,.slice (some ⟨w.heap.size+1,0,none⟩) 1 1,.slice none 0 0,.slice none 0 0,.slice none 0 0] 28
  simp only [World.size_alloc] at this;exact this
 ·refine ⟨nil_slok,nil_slok,lit_slok _ _ (by decide),lit_slok _ _ (by decide),nil_slok,nil_slok,nil_slok,Rd.none_ _,Rd.none_ _,?_,?_,Rk.none_ 2 _,Rd.none_ _,Rd.none_ _,sB_ok⟩
  ·exact (Rk.alloc ((Ok.lit 3 w 156 (tcs ([(0,false,0)]:List TT)) 1 rfl (by simp [maxLen])).rd) _).alloc _
  ·have:=(Rd.ints (w.alloc (.cells #[.int .i32 0,.bool false,.int .u8 0] 156)) 5 .u8 ([0]:List Int) 1 rfl rfl).alloc (.cells #[.slice none 0 0,.slice none 0 0,.slice (some ⟨w.heap.size,0,none⟩) 1 1,.slice (some ⟨w.heap.size+1,0,none⟩) 1 1,.slice none 0 0,.slice none 0 0,.slice none 0 0] 28)
   simp only [World.size_alloc] at this;exact this
theorem pin_ow {W:World} {b n c:Nat} {A:Option Addr} {xs:List Int} (hT:T21 W) (o:Ow W b 5 A n c (xs.map (Value.int .u8))) (hB:Bytes xs) (hn:n≤100000):PIn W A n c xs :=
 ⟨hT,o.rd,hB,o.nilcap,o.cap,by have:=o.capMax;simpa [maxLen] using this,hn⟩
theorem parse_ok {W:World} {A:Option Addr} {n c:Nat} {xs:List Int} (I:PIn W A n c xs) {v:Int} {Q Q':Bk} {s:ByteArray} (hp:parF xs=.ok (v,Q,Q',fB (byt s))) :
 Calls Tryz.prog 10 #[.slice A n c] W fun z w'=>∃ S S',z=.returned (.tuple #[.agg (flA v S S' s),.int .i64 0,.int .i64 0])∧OwBk w' W.heap.size S Q∧OwBk w' W.heap.size S' Q'∧Below W.heap.size W w':=by
 refine (zf_.Parse I).mono ?_
 rintro z w' ⟨v1,S,S',f,Q1,Q1',e,a,rfl,R,hb⟩
 rcases R.r with ⟨h,rfl,rfl⟩ | ⟨h,_⟩
 ·rw [hp] at h
  simp only [Except.ok.injEq,Prod.mk.injEq] at h
  obtain ⟨rfl,rfl,rfl,h4⟩:=h
  have:s=f:=byt_inj.1 (fB_inj h4)
  subst this
  exact ⟨S,S',rfl,R.a,R.b,hb⟩
 ·rw [hp] at h
  cases h
theorem parse_no {W:World} {A:Option Addr} {n c:Nat} {xs:List Int} (I:PIn W A n c xs) {e a:Int} (hp:parF xs=.error (e,a)) :
 Calls Tryz.prog 10 #[.slice A n c] W fun z w'=>∃ S S' f,z=.returned (.tuple #[.agg (flA 0 S S' f),.int .i64 e,.int .i64 a])∧OwBk w' W.heap.size S Bk.zero∧OwBk w' W.heap.size S' Bk.zero∧byt f=[]∧Below W.heap.size W w':=by
 refine (zf_.Parse I).mono ?_
 rintro z w' ⟨v1,S,S',f,Q1,Q1',e1,a1,rfl,R,hb⟩
 rcases R.r with ⟨h,_⟩ | ⟨h,_,rfl,rfl,rfl,h6⟩
 ·rw [hp] at h
  cases h
 ·rw [hp] at h
  simp only [Except.error.injEq,Prod.mk.injEq] at h
  obtain ⟨rfl,rfl⟩:=h
  exact ⟨S,S',f,rfl,R.a,R.b,h6,hb⟩
theorem one_u8 (l:List Int):∀ u ∈ l.map (Value.int .u8),u.oneCell'=true:=by
 intro u hu
 obtain ⟨x,_,rfl⟩:=List.mem_map.1 hu
 rfl
theorem map_set8 (l:List Int) (i:Nat) (x:Int):(l.map (Value.int .u8)).set i (.int .u8 x)=(l.set i x).map (Value.int .u8):=(List.map_set ..).symm
theorem le_sB:sB.le 10000:=⟨by decide,by decide,by decide,by decide,by decide,by decide,by decide⟩
theorem le_z:Bk.zero.le 10000:=⟨by decide,by decide,by decide,by decide,by decide,by decide,by decide⟩
theorem byt_u0:byt ⟨#[85,84,67,48]⟩=uL:=rfl
theorem byt_e0:byt ⟨#[]⟩=[]:=rfl
theorem ser1:serL 1 sB Bk.zero (byt ⟨#[]⟩)=oneL:=by unfold serL;rw [byt_e0,sV1];rfl
theorem ser2:serL 2 sB sB (byt ⟨#[85,84,67,48]⟩)=twoL:=by unfold serL;rw [byt_u0,sV2];rfl
theorem ser3:serL 2 sB Bk.zero (byt ⟨#[]⟩)=[]:=by unfold serL;rw [byt_e0,sV3];rfl
theorem pin_cut {W:World} {b n c:Nat} {A:Option Addr} {xs:List Int} (hT:T21 W) (o:Ow W b 5 A n c (xs.map (Value.int .u8))) (hB:Bytes xs) (hn:n≤100000) {k:Nat} (hk:k≤n):PIn W A k c (xs.take k) :=
 ⟨hT,by have:=o.rd.take hk;rwa [← List.map_take] at this,bytes_of_mem fun x hx=>hB.mem x (List.mem_of_mem_take hx),fun h=>by have:=o.nilcap h;omega,by have:=o.cap;omega,by have:=o.capMax;simpa [maxLen] using this,by omega⟩
namespace l21_
theorem awake (w:World) (hT:T21 w):Calls Tryz.prog 8 #[] w fun e w'=>e=.returned (.bool true)∧Below w.heap.size w w':=by
 have m1:=mkT1
 have hb:=hide (Below.refl w.heap.size w)
 replace hT:=hide hT
 have HT:=hT
 go_enter Tryz.func8,Tryz.ntmps8
 go_upto_region 2 with fail
 obtain ⟨S0,k1,i0⟩:=aMk0 w
 replace k1:=hide k1
 replace i0:=hide i0
 have h1:=bl_alloc (bl_alloc (bl_new w (.cells #[.int .i32 0,.bool false,.int .u8 0] 156)) (.cells #[.int .u8 0] 5)) (.cells #[.slice none 0 0,.slice none 0 0,.slice (some ⟨w.heap.size,0,none⟩) 1 1,.slice (some ⟨w.heap.size+1,0,none⟩) 1 1,.slice none 0 0,.slice none 0 0,.slice none 0 0] 28)
 replace hb:=hide (bel_next hb.out h1)
 replace HT:=hide (HT.out.below h1)
 clear h1
 generalize (((w.alloc (.cells #[.int .i32 0,.bool false,.int .u8 0] 156)).alloc (.cells #[.int .u8 0] 5)).alloc (.cells #[.slice none 0 0,.slice none 0 0,.slice (some ⟨w.heap.size,0,none⟩) 1 1,.slice (some ⟨w.heap.size+1,0,none⟩) 1 1,.slice none 0 0,.slice none 0 0,.slice none 0 0] 28))=u1 at *
 generalize w.heap.size+1+1=g1 at *
 have hS0:Gr Tryz.prog 28 7 #[.slice S0.ti.A S0.ti.n S0.ti.c,.slice S0.ix.A S0.ix.n S0.ix.c,.slice S0.ty.A S0.ty.n S0.ty.c,.slice S0.ch.A S0.ch.n S0.ch.c,.slice S0.lp.A S0.lp.n S0.lp.c,.slice S0.sd.A S0.sd.n S0.sd.c,.slice S0.ut.A S0.ut.n S0.ut.c]:=gr_blk S0
 have SE1:=hide (fun W hT (h:IsBk W S0 sB)=>zf_.Serialize 1 S0 ⟨⟨none,0,0⟩,⟨none,0,0⟩,⟨none,0,0⟩,⟨none,0,0⟩,⟨none,0,0⟩,⟨none,0,0⟩,⟨none,0,0⟩⟩ ⟨#[]⟩ sB Bk.zero W hT h (is_nil W) le_sB le_z (by decide))
 rw [ser1,byt_e0,sV1,oneL_len] at SE1
 have SE2:=hide (fun W hT (h:IsBk W S0 sB)=>zf_.Serialize 2 S0 S0 ⟨#[85,84,67,48]⟩ sB sB W hT h h le_sB le_sB (by decide))
 rw [ser2,byt_u0,sV2,twoL_len] at SE2
 have SE3:=hide (fun W hT (h:IsBk W S0 sB)=>zf_.Serialize 2 S0 ⟨⟨none,0,0⟩,⟨none,0,0⟩,⟨none,0,0⟩,⟨none,0,0⟩,⟨none,0,0⟩,⟨none,0,0⟩,⟨none,0,0⟩⟩ ⟨#[]⟩ sB Bk.zero W hT h (is_nil W) le_sB le_z (by decide))
 rw [ser3,byt_e0,sV3,List.length_nil] at SE3
 dsimp only [flA] at SE1 SE2 SE3
 clear m1
 go_wp2_with (refine load_row_g (by rfl) 28 _ rfl _ rfl _ _ _ k1.out Tryz.underlying28 rfl hS0.1 ?_)
 refine (SE1.out _ HT.out i0.out).mono ?_
 rintro e u2 ⟨A1,c1,rfl,o1,h1⟩
 replace HT:=hide (HT.out.below h1)
 replace k1:=hide (k1.out.below h1)
 replace i0:=hide (i0.out.below h1)
 replace hb:=hide (bel_next hb.out h1)
 clear h1
 replace o1:=hide o1
 clear SE1
 go_wp2_with (refine load_row_g (by rfl) 28 _ rfl _ rfl _ _ _ k1.out Tryz.underlying28 rfl hS0.1 ?_)
 refine (SE2.out _ HT.out i0.out).mono ?_
 rintro e u3 ⟨A2,c2,rfl,o2,h1⟩
 replace HT:=hide (HT.out.below h1)
 replace k1:=hide (k1.out.below h1)
 replace i0:=hide (i0.out.below h1)
 replace o1:=hide (o1.out.below h1)
 replace hb:=hide (bel_next hb.out h1)
 clear h1
 replace o2:=hide o2
 clear SE2
 go_wp2_with (refine load_row_g (by rfl) 28 _ rfl _ rfl _ _ _ k1.out Tryz.underlying28 rfl hS0.1 ?_)
 refine (SE3.out _ HT.out i0.out).mono ?_
 rintro e u4 ⟨A3,c3,rfl,o3,h1⟩
 replace HT:=hide (HT.out.below h1)
 replace k1:=hide (k1.out.below h1)
 replace i0:=hide (i0.out.below h1)
 replace o1:=hide (o1.out.below h1)
 replace o2:=hide (o2.out.below h1)
 replace hb:=hide (bel_next hb.out h1)
 clear h1
 clear SE3 o3 k1 i0 hS0
 have PA:=hide (parse_ok (pin_ow HT.out o2.out twoL_bytes (by decide)) (show parF twoL=.ok (2,sB,sB,fB (byt ⟨#[85,84,67,48]⟩)) from two_par))
 go_wp2_with fail
 refine (PA.out).mono ?_
 rintro e u5 ⟨S8,S8',rfl,oa,ob,h1⟩
 replace HT:=hide (HT.out.below h1)
 replace o1:=hide (o1.out.below h1)
 replace o2:=hide (o2.out.below h1)
 replace hb:=hide (bel_next hb.out h1)
 clear h1
 clear PA
 have tn:=ob.is.lens.2.2.1
 replace tn:=hide tn
 clear oa ob
 have GF:=gr_file 2 S8 S8' ⟨#[85,84,67,48]⟩
 obtain ⟨cs,hcs⟩:∃ c,c=flA 2 S8 S8' ⟨#[85,84,67,48]⟩:=⟨_,rfl⟩
 have q0:=hide (show cs[0]?=some (.int .i64 2) by rw [hcs];rfl)
 have q10:=hide (show cs[10]?=some (.slice S8'.ty.A S8'.ty.n S8'.ty.c) by rw [hcs];rfl)
 have q15:=hide (show cs[15]?=some (.string ⟨#[85,84,67,48]⟩) by rw [hcs];rfl)
 rw [← hcs] at GF ⊢
 clear hcs
 go_upto_region 8 with (refine wpList_store_row rfl 30 _ _ rfl _ _ rfl rfl _ _ (heap_alloc_last _ _) GF.1 (by rw [GF.2.1];rfl) GF.2.2 ?_;rw [World.setRow_alloc_new])
 have k8:=hide (Ro.new u5 cs 30)
 have h1:=bl_new u5 (.cells cs 30)
 replace HT:=hide (HT.out.below h1)
 replace o1:=hide (o1.out.below h1)
 replace o2:=hide (o2.out.below h1)
 replace hb:=hide (bel_next hb.out h1)
 clear h1
 generalize u5.alloc (.cells cs 30)=u6 at *
 generalize u5.heap.size=g8 at *
 clear GF
 have be:=hide (bl_new u6 (.cells #[] 5))
 go_wp2_with (first | (at_builtin;refine apn elU8 (Ow.lit u6 5 [] (by simp)) be.out (Nat.le_refl _) (o1.out.rd.alloc (.cells #[] 5)) (.tmp 58) (.tmp 59) rfl rfl rfl rfl o1.out.nilcap (one_u8 _) (by simp [maxLen] <;> omega) (by simp <;> omega) ?_;intro A7 c7 u7 ho hbn;simp only [Nat.zero_add,List.nil_append,List.length_nil] at ho) | (at_builtin;refine ap1 elU8 ho hbn (Nat.le_refl _) (.tmp 60) (.tmp 61) (.int .u8 0) rfl rfl rfl rfl rfl (by simp [maxLen]) (by simp) ?_;intro A8 c8 u8 ho8 hb8))
 replace o1:=hide (show Ow u8 u6.heap.size 5 A8 52 c8 ((oneL++[0]).map (Value.int .u8)) from by rw [List.map_append];exact ho8)
 replace HT:=hide (HT.out.below hb8)
 replace o2:=hide (o2.out.below hb8)
 replace k8:=hide (k8.out.below hb8)
 replace hb:=hide (bel_next hb.out hb8)
 clear ho hbn ho8 hb8 be
 have oneL_b1:Bytes (oneL++[0]):=oneL_bytes.app (bytes_of_mem (by decide))
 have PA:=hide (parse_no (pin_ow HT.out o1.out oneL_b1 (by decide)) one_more)
 clear oneL_b1
 refine PA.out.mono ?_
 rintro e u9 ⟨T1,T1',f1,rfl,oa,ob,of,h1⟩
 replace HT:=hide (HT.out.below h1)
 replace o2:=hide (o2.out.below h1)
 replace k8:=hide (k8.out.below h1)
 replace hb:=hide (bel_next hb.out h1)
 clear h1
 clear PA oa ob of o1
 have GF:=gr_file 0 T1 T1' f1
 generalize flA 0 T1 T1' f1=c9 at *
 go_upto_region 9 with (refine wpList_store_row rfl 30 _ _ rfl _ _ rfl rfl _ _ (heap_alloc_last _ _) GF.1 (by rw [GF.2.1];rfl) GF.2.2 ?_;rw [World.setRow_alloc_new])
 have h1:=bl_new u9 (.cells c9 30)
 replace HT:=hide (HT.out.below h1)
 replace o2:=hide (o2.out.below h1)
 replace k8:=hide (k8.out.below h1)
 replace hb:=hide (bel_next hb.out h1)
 clear h1
 generalize u9.alloc (.cells c9 30)=u10 at *
 clear GF
 have hc2:=o2.out.cap
 have hm2:=o2.out.capMax
 unfold maxLen at hm2
 have dc:(107:Int)≤(c2:Int):=by omega
 have dc2:107≤c2:=by omega
 have PA:=hide (parse_no (pin_cut HT.out o2.out twoL_bytes (by decide) (k:=107) (by decide)) two_cut)
 go_wp2_with fail
 refine (PA.out).mono ?_
 rintro e u11 ⟨T2,T2',f2,rfl,oa,ob,of,h1⟩
 replace HT:=hide (HT.out.below h1)
 replace o2:=hide (o2.out.below h1)
 replace k8:=hide (k8.out.below h1)
 replace hb:=hide (bel_next hb.out h1)
 clear h1
 clear PA oa ob of dc dc2 hc2 hm2
 have GF:=gr_file 0 T2 T2' f2
 generalize flA 0 T2 T2' f2=c10 at *
 go_upto_region 10 with (refine wpList_store_row rfl 30 _ _ rfl _ _ rfl rfl _ _ (heap_alloc_last _ _) GF.1 (by rw [GF.2.1];rfl) GF.2.2 ?_;rw [World.setRow_alloc_new])
 have h1:=bl_new u11 (.cells c10 30)
 replace HT:=hide (HT.out.below h1)
 replace o2:=hide (o2.out.below h1)
 replace k8:=hide (k8.out.below h1)
 replace hb:=hide (bel_next hb.out h1)
 clear h1
 generalize u11.alloc (.cells c10 30)=u12 at *
 clear GF
 have be:=hide (bl_new u12 (.cells #[] 5))
 go_upto_region 11 with ((at_builtin;refine apn elU8 (Ow.lit u12 5 [] (by simp)) be.out (Nat.le_refl _) (o2.out.rd.alloc (.cells #[] 5)) (.tmp 74) (.tmp 75) rfl rfl rfl rfl o2.out.nilcap (one_u8 _) (by simp [maxLen] <;> omega) (by simp <;> omega) ?_;intro A13 c13 u13 ho hbn;simp only [Nat.zero_add,List.nil_append,List.length_nil] at ho))
 replace ho:=hide ho
 have g8l:=k8.out.lt
 replace HT:=hide (HT.out.below hbn)
 replace k8:=hide (k8.out.below hbn)
 have hbx:=hide (bel_next hb.out hbn)
 have hws:=hb.out.size
 clear hbn be hb o2
 have hb:=hbx
 clear hbx
 obtain ⟨g13,rfl,hg1,hg2⟩:=ho.out.form (by decide)
 have y55:u13.cell? ⟨g13,55,none⟩=some (.int .u8 50):=(ho.out.cell 55 (by decide)).trans rfl
 have z55:=ho.out.frozen 55
 have o9:=hide (show Ow (u13.setCell ⟨g13,55,none⟩ (.int .u8 51)) u12.heap.size 5 (some ⟨g13,0,none⟩) 108 c13 (badL'.map (Value.int .u8)) from by have:=ho.out.set 55 (.int .u8 51);rw [map_set8] at this;exact this)
 replace k8:=hide (ro_set_ne k8.out (g':=g13) (by omega) 55 (.int .u8 51))
 replace hb:=hide (bl_set hb.out (g:=g13) (o:=55) (by omega) (.int .u8 51))
 clear ho g8l hws hg1 hg2
 go_upto_region 12 with fail
 clear y55 z55
 generalize u13.setCell ⟨g13,55,none⟩ (.int .u8 51)=u14 at *
 replace HT:=hide (hT.out.below hb.out)
 have PA:=hide (parse_no (pin_ow HT.out o9.out badL_bytes (by decide)) two_bad)
 go_wp2_with fail
 refine (PA.out).mono ?_
 rintro e u15 ⟨T3,T3',f3,rfl,oa,ob,of,h1⟩
 replace HT:=hide (HT.out.below h1)
 replace k8:=hide (k8.out.below h1)
 replace hb:=hide (bel_next hb.out h1)
 clear h1
 clear PA oa ob of
 have GF:=gr_file 0 T3 T3' f3
 generalize flA 0 T3 T3' f3=c11 at *
 go_upto_region 13 with (refine wpList_store_row rfl 30 _ _ rfl _ _ rfl rfl _ _ (heap_alloc_last _ _) GF.1 (by rw [GF.2.1];rfl) GF.2.2 ?_;rw [World.setRow_alloc_new])
 have h1:=bl_new u15 (.cells c11 30)
 replace HT:=hide (HT.out.below h1)
 replace k8:=hide (k8.out.below h1)
 replace hb:=hide (bel_next hb.out h1)
 clear h1
 generalize u15.alloc (.cells c11 30)=u16 at *
 clear GF
 have tn1:S8'.ty.n=1:=by have:=tn.out;simpa [sB] using this.symm
 obtain ⟨y0,_⟩:=ro_cf k8.out 0 _ q0.out
 obtain ⟨y10,_⟩:=ro_cf k8.out 10 _ q10.out
 obtain ⟨y15,_⟩:=ro_cf k8.out 15 _ q15.out
 rw [tn1] at y10
 go_wp2
 go_ret
 exact ⟨rfl,hb.out⟩
end l21_
end Go.Proofs.YtpapfpcehlhgeaaGreatDoor
