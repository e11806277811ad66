/-
  Texts of mine in one file: TrD, Tr, OwM, ErA, Tt, DsN, LpB. Their conditions stand in the theorems.
-/
import Derived.Test.YtpapfpcehlhgeaaGreatDoorE01
import Derived.Test.YtpapfpcehlhgeaaGreatDoorE02
import Derived.Test.YtpapfpcehlhgeaaGreatDoorRows
import Derived.Deep.RegionHeld3
import Derived.Deep.DeepCutAuto
import Derived.Test.YtpapfpcehlhgeaaGreatDoorE03
import Derived.WalkKit
import Derived.LaidEql
import Derived.Stop.Asserts
import Derived.RowKitTokens
import Derived.LaidHandle
import Derived.LaidLaws
import Derived.Deep.RegionLaw
namespace Go.Proofs.YtpapfpcehlhgeaaGreatDoor
set_option linter.unusedVariables false
set_option linter.unusedSimpArgs false
set_option maxRecDepth 100000
set_option maxHeartbeats 16000000
open Go.ChangeShapes Go.WideShapes Go.ChangeAt Go.RowKit
open Go.ChangeShapes Go.WideShapes Go.ChangeAt Go.RowKit Go.Shelf
attribute [local go_sem] Oper.semAt_some
namespace tr_
def encN (l:List Int) (k:Nat):Array Value:=#[.int .i64 ((k+1:Nat):Int),.agg #[.int .i64 (l[k]?.getD 0),.int .i64 (l[k+1]?.getD 0)]]
theorem neighbors_ (A:Option Addr) (n c:Nat) (w:World):Calls Tryz.prog 209 #[.slice A n c] w fun e w' =>
 e=.returned (.func (.func 234) #[] #[.pointer (some ⟨w.heap.size,0,none⟩)])∧w'=w.alloc (.cells #[.slice A n c] 23):=by
 go_enter Tryz.func209,Tryz.ntmps209
 go_wp2
 go_ret
 exact ⟨rfl,rfl⟩
theorem stops_ (A:Option Addr) (n c:Nat) (l:List Int) (gB m:Nat) (w0 w:World) (hn:n≤1000000) (hr:Rd w0 A n (l.map (Value.int .i64))) (h0w:Below w0.heap.size w0 w) (hB:Ro w gB #[.slice A n c] 23) :
 SeqStopsK Fence.wide m Tryz.prog 234 #[.pointer (some ⟨gB,0,none⟩)] (encN l) (Kp1 w0.heap.size gB)
  (fun xs=>xs=List.range (n - 1)) (fun pre=>∃ k,k≤n - 1∧pre=List.range k) (n - 1) w:=fun lp J Jx W hW hJ hJx hY h0=>by
 have hw0:=hide (h0w.trans (hW.mono h0w.size))
 replace hB:=hide (hB.below hW)
 have hYY:=hide hY
 have hRR:=hide hr
 clear hY hJx h0w hr
 refine callsIn_wide.2 ?_
 show Calls Tryz.prog 234 #[.func (.yield lp) #[] #[],.pointer (some ⟨gB,0,none⟩)] W _
 go_enter Tryz.func234,Tryz.ntmps234
 go_wp2
 go_loopw [3] (fun s3 wr=>∃ k j:Nat,k≤n - 1∧s3=.int .i64 (j:Int)∧j=k+1∧J (List.range k) wr∧Ro wr gB #[.slice A n c] 23∧Below w0.heap.size w0 wr)
  (fun s3 _=>n+1 - (intOf s3).toNat)
 case atStart=>exact ⟨0,1,by omega,rfl,rfl,h0,hB.out,hw0.out⟩
 case round =>
  clear hB hw0 h0
  obtain ⟨k,j,hk,rfl,hj,hJ1,hB,hw⟩:=hrel
  obtain ⟨cB,_⟩:=ro_cf hB 0 (.slice A n c) rfl
  by_cases hlt:j<n
  ·obtain ⟨ad,e1,hc⟩:=(hRR.out.below hw).int (i:=k) (by omega)
   obtain ⟨ad',e2,hc'⟩:=(hRR.out.below hw).int hlt
   subst e1
   cases e2
   have i1:IntKind.i64.wrap ((j:Int) - 1)=(k:Int):=by rw [IntKind.wrap_i64];omega
   have k0:k<n:=by omega
   have hJ2:=hJ _ _ _ none hJ1 (grown_of (bl_drew (bl_refl wr))) (fun r e=>by cases e)
   obtain ⟨fn,tmps,assign,body,hy,hRd⟩:=hYY.out (List.range k) k wr.drew hJ2 (by simp;omega)
   dsimp only [encN] at hy
   rw [← hj] at hy
   generalize l[k]?.getD 0=x at *
   generalize l[j]?.getD 0=y at *
   have hR2:=hRd.mono (R':=fun e W3=>∃ b,e=.returned (.bool b)∧((b=true∧J (List.range (k+1)) W3∧Kp1 w0.heap.size gB wr W3)∨(b=false∧Jx (List.range (k+1)) W3))) (by
    rw [List.range_succ]
    rintro e W3 (⟨rfl,h1,h2⟩ | ⟨rfl,h1⟩)
    ·exact ⟨true,rfl,.inl ⟨rfl,h1,kp1_t ⟨bel_drewN (Below.refl _ _) 1,rfl⟩ h2⟩⟩
    ·exact ⟨false,rfl,.inr ⟨rfl,h1⟩⟩)
   replace hj:=hide hj
   clear hRd hJ2
   go_wp2_with fail
   refine (wpIn_wide (n:=m)).1 ?_
   gi_region_with (refine ⟨fun h=>by simp [Fence.wide] at h,hR2.mono ?_⟩;rintro e W3 ⟨b,rfl,hF⟩)
   all_goals
    rcases hF with ⟨rfl,hJ3,hk3⟩ | ⟨rfl,hJx3⟩
    ·have hB3:Ro W3 gB #[.slice (some ad) n c] 23:=hk3.2.trans hB
     have hw3:=hw.trans hk3.1
     gi_wp2
     go_wp2
     go_roundw
     case rel=>exact ⟨k+1,j+1,by have:=hj.out;omega,by go_num,by rw [hj.out],hJ3,hB3,hw3⟩
     case measure=>simp [intOf];omega
    ·gi_wp2
     go_wp2
     refine bodyPost_ret (results_none rfl _ _ _) rfl ?_
     exact ⟨⟨_,rfl⟩,.inr ⟨List.range (k+1),⟨k+1,by have:=hj.out;omega,rfl⟩,hJx3⟩⟩
  ·go_wp2
   go_end0
   exact ⟨⟨_,rfl⟩,.inl ⟨List.range k,by rw [show k=n - 1 by omega],hJ1⟩⟩
theorem Descent (A:Option Addr) (n c:Nat) (l:List Int) (w:World) (hn:n≤1000000) (hA:A=none→n=0∧c=0) (hr:Rd w A n (l.map (Value.int .i64))) :
 Calls Tryz.prog 170 #[.slice A n c] w fun e w'=>e=.returned (.int .i64 (desc l))∧Below w.heap.size w w':=by
 have hl:l.length=n:=by have:=hr.len;simpa using this
 have HL:=hide hl
 obtain ⟨d,hd⟩:∃ d,d=desc l:=⟨_,rfl⟩
 rw [← hd]
 replace hd:=hide hd
 have St:=hide (fun gB m w' h hB=>stops_ A n c l gB m w w' hn hr h hB)
 have Nb:=hide (fun w=>neighbors_ A n c w)
 clear hr hA
 have hR:=hide (Ro.new w #[.int .i64 0] 3)
 have hb:=hide (bl_new w (.cells #[.int .i64 0] 3))
 refine (callsIn_wide (n:=6)).1 ?_
 refine callsIn_of_wp_marks Tryz.func170 rfl trivial ?_ rfl
 simp only [Tryz.ntmps170,List.size_toArray,List.length_cons,List.length_nil,Nat.reduceAdd,Nat.reduceSub,Array.replicate_succ,Array.replicate_zero,List.push_toArray,List.append_toArray,List.nil_append,List.cons_append]
 refine wpIn_wide.2 ?_
 go_upto_region 1 with fail
 generalize w.alloc (.cells #[.int .i64 0] 3)=u at *
 go_wp2_with fail
 refine (Nb.out _).mono ?_
 rintro e w1 ⟨rfl,rfl⟩
 have hB:=Ro.new u #[.slice A n c] 23
 replace hR:=hide (hR.out.alloc (.cells #[.slice A n c] 23))
 have sb:=hb.out.size
 replace hb:=hide (bl_alloc hb.out (.cells #[.slice A n c] 23))
 have ub:u.heap.size<(u.alloc (.cells #[.slice A n c] 23)).heap.size:=by simp
 generalize u.heap.size=gB at *
 generalize u.alloc (.cells #[.slice A n c] 23)=w3 at *
 have sR:=hR.out.lt
 have sW:=hb.out.size
 go_wp2_with fail
 refine (wpIn_wide (n:=6)).1 ?_
 refine wpIn_rangeFunc_ownH rfl (by omega) (gf:=234) (lb:=#[.pointer (some ⟨gB,0,none⟩)]) rfl trivial (enters_of Tryz.func234 (by kernel_rfl) rfl)
  (St.out gB 5 w3 hb.out hB) kp1_t (kp1_b sW ub) (Below.refl _ _) (fun _=>rfl)
  (fun pre W=>(Ro W w.heap.size #[.int .i64 0] 3∧(∀ q ∈ pre,l[q]?.getD 0<l[q+1]?.getD 0)∧gB<W.heap.size)∧Below w.heap.size w W)
  (fun c pre W=>(c=.ret∧∃ p x,pre=p++[x]∧l[x+1]?.getD 0≤l[x]?.getD 0∧(∀ q ∈ p,l[q]?.getD 0<l[q+1]?.getD 0)∧Ro W w.heap.size #[.int .i64 ((x+1:Nat):Int)] 3)∧Below w.heap.size w W)
  (fun s A B row hs hg hr=>⟨⟨ro_keep hs.1.1 hg (fun r e=>(hr r e).2),hs.1.2.1,Nat.lt_of_lt_of_le hs.1.2.2 hg.size⟩,ownFrom_below (β:=Unit) (Nat.le_refl _) (by omega) () A B row hs.2 hg hr⟩)
  (fun c s A B row hs hg hr=>⟨by obtain ⟨⟨h1,p,x,h2,h3,h4,h5⟩,_⟩:=hs;exact ⟨h1,p,x,h2,h3,h4,ro_keep h5 hg (fun r e=>(hr r e).2)⟩,ownFrom_below (β:=Unit) (Nat.le_refl _) (by omega) () A B row hs.2 hg hr⟩)
  ⟨⟨hR.out,by simp,ub⟩,hb.out⟩
  (fun x a' W=>∃ gA,gB<gA∧Ro W gA #[.int .i64 (l[x]?.getD 0),.int .i64 (l[x+1]?.getD 0)] 245∧a'={ tmps:=#[.slice A n c,undef,.pointer (some ⟨w.heap.size,0,none⟩),.int .i64 ((x+1:Nat):Int),.pointer (some ⟨gA,0,none⟩),.slice A n c,.func (.func 234) #[] #[.pointer (some ⟨gB,0,none⟩)],.int .i64 ((x+1:Nat):Int),.agg #[.int .i64 (l[x]?.getD 0),.int .i64 (l[x+1]?.getD 0)],undef,undef,undef,undef,undef,undef],defers:=[] })
  (fun x a' _ A B row hs hg hr=>by obtain ⟨gA,h1,h2,h3⟩:=hs;exact ⟨gA,h1,ro_keep h2 hg (fun r e=>(hr r e).2),h3⟩)
  ?assign ?body ?done ?stop
 case assign =>
  rintro lp pre x W K ⟨⟨hR1,hp,sG⟩,hB1⟩ hK
  have s1:=hB1.size
  unfold encN
  gi_wp2
  exact hK _ _ ((KeepsOthers.alloc _ _).from _) (kp1_below (bl_new W _) s1 sG) ⟨⟨hR1.alloc _,hp,by simp;omega⟩,bl_alloc hB1 _⟩ ⟨W.heap.size,sG,Ro.new W _ _,rfl⟩
 case body =>
  rintro lp pre x a' W hl ⟨r,hr⟩ ⟨⟨hR1,hp,sG⟩,hB1⟩ ⟨gA,hgA,hX,rfl⟩ hlt
  have h1':1≤6 - 1 - 1:=by decide
  have s1:=hB1.size
  obtain ⟨a0,_⟩:=ro_cf hX 0 _ rfl
  obtain ⟨a1,_⟩:=ro_cf hX 1 _ rfl
  obtain ⟨c0,c1⟩:=ro_cf hR1 0 (.int .i64 0) rfl
  obtain ⟨p0,hp0⟩:∃ p0,p0=l[x]?.getD 0:=⟨_,rfl⟩
  obtain ⟨p1,hp1⟩:∃ p1,p1=l[x+1]?.getD 0:=⟨_,rfl⟩
  rw [← hp0] at a0
  rw [← hp1] at a1
  rw [← hp0,← hp1]
  by_cases hx:p1≤p0
  ·gi_wp2
   exact ⟨(KeepsOthers.setCell _ _ _).from _,⟨rfl,pre,x,rfl,by rw [← hp0,← hp1];exact hx,hp,ro_set1' hR1⟩,bl_set1 hB1 (Nat.le_refl _)⟩
  ·gi_wp2
   exact ⟨KeepsFrom.refl _ _,kp1_refl _ _ _,⟨hR1,fun q hq=>by
    rcases List.mem_append.1 hq with h | h
    ·exact hp q h
    ·simp at h;subst h;rw [← hp0,← hp1];omega,sG⟩,hB1⟩
 case done =>
  rintro D' xs W hD' rfl ⟨⟨hR1,hp,sG⟩,hB1⟩ hK
  obtain rfl:d=-1:=hd.out.trans <| desc_asc fun i hi=>hp i (by rw [List.mem_range];rw [HL.out] at hi;omega)
  obtain ⟨c0,c1⟩:=ro_cf hR1 0 (.int .i64 0) rfl
  go_wp2
  have hK':=(KeepsOthers.setCell W ⟨w.heap.size,0,none⟩ (.int .i64 (-1))).same D' _ hK rfl
  refine ⟨by simp,.inl ⟨_,_,rfl,run_takeDeferred hK',?_⟩⟩
  have hc5:=(ro_cf (ro_keep (ro_set1' (x0:=.int .i64 (-1)) hR1) (grownBy_putObj' _ D' (.deferred none)) (fun r e=>by cases e;exact ⟨_,hK',rfl⟩)) 0 _ rfl).1
  exact ⟨.int .i64 (-1),by simp [results,Tryz.results170,go_sem,hc5],rfl,(bl_set1 hB1 (Nat.le_refl _)).trans (belowK_b (w:=w) (Nat.le_refl _) _ D' _ _ (by omega) hK' rfl rfl)⟩
 case stop =>
  rintro D' c pre W hD' ⟨k,hk,hpre⟩ ⟨⟨rfl,p,x,rfl,hx,hp,hR1⟩,hB1⟩ hK
  obtain ⟨j,rfl⟩:∃ j,k=j+1:=by
   cases k with
   | zero=>simp at hpre
   | succ j=>exact ⟨j,rfl⟩
  rw [List.range_succ] at hpre
  obtain ⟨rfl,e5⟩:=List.append_inj' hpre rfl
  obtain rfl:x=j:=by simpa using e5
  obtain rfl:d=((x+1:Nat):Int):=hd.out.trans <| desc_at (by rw [HL.out];omega) hx fun q hq=>hp q (List.mem_range.2 hq)
  refine wpIn_wide.2 ?_
  go_wp2
  refine ⟨by simp,.inl ⟨_,_,rfl,run_takeDeferred hK,?_⟩⟩
  have hc5:=(ro_cf (ro_keep hR1 (grownBy_putObj' _ D' (.deferred none)) (fun r e=>by cases e;exact ⟨_,hK,rfl⟩)) 0 _ rfl).1
  exact ⟨.int .i64 ((x+1:Nat):Int),by simp [results,Tryz.results170,go_sem,hc5],rfl,hB1.trans (belowK_b (w:=w) (Nat.le_refl _) _ D' _ _ (by omega) hK rfl rfl)⟩
end tr_
namespace tr_
theorem elI64:ElT Tryz.prog 23 2 (.int .i64 0) 8:=⟨Tryz.underlying23,by kernel_rfl,rfl⟩
theorem isTimeSize (k:Nat) (w:World) (hk:k=4∨k=8):Calls Tryz.prog 153 #[.int .i64 (k:Int)] w fun e w'=>e=.returned (.bool true)∧w=w':=by
 rcases hk with rfl | rfl
 all_goals
  go_enter Tryz.func153,Tryz.ntmps153
  go_wp2
  go_ret
  exact ⟨rfl,rfl⟩
theorem Fit (A:Option Addr) (n c:Nat) (l:List Int) (k:Nat) (K:Int) (w:World) (hK:K=(k:Int)) (hk:k=4∨k=8) (hn:n≤1000000) (hA:A=none→n=0∧c=0) (hr:Rd w A n (l.map (Value.int .i64))) (hl64:∀ v ∈ l,-9223372036854775808≤v∧v<9223372036854775808) :
 Calls Tryz.prog 207 #[.slice A n c,.int .i64 K] w fun e w'=>e=.returned (.bool (fT k l))∧Below w.heap.size w w':=by
 subst hK
 have hl:l.length=n:=by have:=hr.len;simpa using this
 obtain ⟨d,hd⟩:∃ d,d=fT k l:=⟨_,rfl⟩
 rw [← hd]
 have HD:=hide hd
 have HL:=hide hl
 have H64:=hide hl64
 have F:=hide (fun (v:Int) (h:v ∈ l) (w:World)=>be_.Fits v k w (by omega) (hl64 v h).1 (hl64 v h).2)
 clear hd hl hl64 hk
 go_enter Tryz.func207,Tryz.ntmps207
 go_wp2
 go_loopw [9] (fun i wr=>∃ q:Nat,q≤n∧i=.int .i64 (q:Nat)∧Hid ((l.take q).all (fun v=>fitsB k v)=true)∧Below w.heap.size w wr) (fun i _=>n - (intOf i).toNat)
 case atStart=>exact ⟨0,by omega,rfl,hide rfl,bl_refl _⟩
 case round =>
  obtain ⟨q,hq,rfl,ha,hw⟩:=hrel
  by_cases hlt:q<n
  ·obtain ⟨ad,e1,hc⟩:=(hr.below hw).int hlt
   subst e1
   have hm:l[q]?.getD 0 ∈ l:=by rw [List.getElem?_eq_getElem (by rw [HL.out];exact hlt)];exact List.getElem_mem _
   have hst:(l.take (q+1)).all (fun v=>fitsB k v)=((l.take q).all (fun v=>fitsB k v) && fitsB k (l[q]?.getD 0)):=by
    rw [List.take_succ_eq_append_getElem (by rw [HL.out];exact hlt),List.all_append,List.getElem?_eq_getElem (by rw [HL.out];exact hlt)]
    simp
   have F1:=hide (F.out _ hm)
   generalize l[q]?.getD 0=x at *
   rcases hf:fitsB k x with _ | _
   ·rw [hf] at F1
    have hne:d=false:=by
     rw [HD.out]
     unfold fT
     rw [← Bool.not_eq_true,List.all_eq_true]
     intro h
     have:=h x hm
     rw [hf] at this
     cases this
    subst hne
    clear hst hm
    go_wp2_with fail
    refine (F1.out _).mono ?_
    rintro e w' ⟨rfl,rfl⟩
    go_wp2
    go_ret
    exact ⟨rfl,hw⟩
   ·rw [hf] at F1
    rw [ha.out,hf] at hst
    have hs:=hide (show (l.take (q+1)).all (fun v=>fitsB k v)=true from hst)
    clear hst hm
    go_wp2_with fail
    refine (F1.out _).mono ?_
    rintro e w' ⟨rfl,rfl⟩
    go_wp2
    go_roundw
    case rel=>exact ⟨q+1,by omega,by go_num,hs,hw⟩
    case measure=>simp [intOf];omega
  ·obtain rfl:q=n:=by omega
   have hne:d=true:=by
    rw [HD.out]
    have:=ha.out
    rwa [List.take_of_length_le (by rw [HL.out];omega)] at this
   subst hne
   go_wp2
   go_ret
   exact ⟨rfl,hw⟩
theorem Encode (A:Option Addr) (n c m:Nat) (l:List Int) (k:Nat) (K:Int) (w:World) (hK:K=(k:Int)) (hk:k=4∨k=8) (hn:n≤100000) (hm:m=k * n) (hA:A=none→n=0∧c=0) (hr:Rd w A n (l.map (Value.int .i64))) (hl64:∀ v ∈ l,-9223372036854775808≤v∧v<9223372036854775808) :
 Calls Tryz.prog 112 #[.slice A n c,.int .i64 K] w fun e w'=>∃ A' c',e=.returned (.slice A' m c')∧Ow w' w.heap.size 5 A' m c' ((eT k l).map (Value.int .u8))∧Below w.heap.size w w':=by
 subst hK hm
 have hl:l.length=n:=by have:=hr.len;simpa using this
 have HL:=hide hl
 have hk8:k≤8:=by omega
 have hk1:1≤k:=by omega
 have P:=hide (fun v w h4 h5=>be_.Append none 0 0 [] k v w (by omega) (by omega) (Rd.none_ w) h4 h5)
 have T:=hide (fun w=>isTimeSize k w hk)
 clear hl hl64 hk
 have hkn:k * n≤800000:=Nat.le_trans (Nat.mul_le_mul hk8 hn) (by omega)
 obtain ⟨m,hmd⟩:∃ m,m=k * n:=⟨_,rfl⟩
 rw [← hmd] at hkn ⊢
 have i0:IntKind.i64.wrap ((n:Int) * (k:Int))=(m:Int):=by rw [show (n:Int) * (k:Int)=(m:Int) by rw [hmd,Int.natCast_mul,Int.mul_comm],IntKind.wrap_i64];omega
 have HM:=hide hmd
 clear hmd
 go_enter Tryz.func112,Tryz.ntmps112
 go_wp2_with (first
  | (go_at_call 153;refine (T.out _).mono ?_;rintro e w' ⟨rfl,rfl⟩)
  | (refine mk (n:=0) (k:=m) elU8 (Below.refl w.heap.size _) (Nat.le_refl _) (Nat.le_refl _) rfl (.const (.int .i64 0)) (.tmp 14) rfl .i64 .i64 _ _ rfl rfl rfl rfl (by omega) (by omega) (by simp [maxLen];omega) ?_;intro w1 ho1 hb1))
 go_loopw [5,18] (fun o i wr=>∃ (q:Nat) (A':Option Addr) (c':Nat),q≤n∧i=.int .i64 (q:Nat)∧o=.slice A' (k * q) c'∧Hid (Ow wr w.heap.size 5 A' (k * q) c' ((eT k (l.take q)).map (Value.int .u8)))∧Hid (Below w.heap.size w wr)) (fun _ i _=>n - (intOf i).toNat)
 case atStart=>exact ⟨0,_,_,by omega,rfl,rfl,hide ho1,hide hb1⟩
 case round =>
  clear ho1 hb1
  obtain ⟨q,A',c',hq,rfl,rfl,ho,hw⟩:=hrel
  by_cases hlt:q<n
  ·obtain ⟨ad,e1,hc⟩:=(hr.below hw.out).int hlt
   subst e1
   have hst:=hide (eT_step k l q (by rw [HL.out];exact hlt))
   have hu:=u64_bd (l[q]?.getD 0)
   have hcv:∀ w:World,(convert 2 101 (.int .i64 (l[q]?.getD 0))).run Tryz.prog w=.ok (.int .u64 (u64 (l[q]?.getD 0))) w:=fun w=>by simp [go_sem,u64,IntKind.wrap_u64]
   generalize l[q]?.getD 0=x at *
   have hkq:k * q≤800000:=Nat.le_trans (Nat.mul_le_mul hk8 (Nat.le_of_lt hlt)) (by omega)
   have e8:k * (q+1)=k * q+k:=by rw [Nat.mul_add];omega
   have C:=hide (P.out (u64 x) wr hu.1 hu.2)
   have hs:=hide hw.out.size
   clear hu
   generalize k * q=kq at *
   go_wp2_with fail
   refine C.out.mono ?_
   rintro e w1 ⟨A2,c2,rfl,o2,h2⟩
   rw [Int.toNat_natCast,Nat.zero_add] at o2 ⊢
   rw [List.nil_append] at o2
   have ho2:=ho.out.below h2
   have hw2:=bel_next hw.out h2
   have hr2:=o2.rd
   have hn2:=o2.nilcap
   have h1c:=hide (oneCells .u8 (be k (u64 x)))
   clear o2 h2 ho hw
   go_wp2_with (at_builtin;refine apA elU8 ho2 hw2 (Nat.le_refl _) hr2 (.tmp 22) (.tmp 26) rfl rfl rfl rfl hn2 h1c.out (by simp [maxLen];omega) (by omega) ?_;intro A3 c3 w3 ho3 hb3 hg3)
   rw [← List.map_append,← hst.out,← e8] at ho3
   replace ho3:=hide ho3
   replace hb3:=hide hb3
   clear hg3 ho2 hw2 hr2 hn2
   rw [← e8]
   go_roundw
   case rel=>exact ⟨q+1,A3,c3,by omega,by go_num,rfl,ho3,hb3⟩
   case measure=>simp [intOf];omega
  ·obtain rfl:q=n:=by omega
   go_wp2
   go_ret
   have:=ho.out
   rw [List.take_of_length_le (by rw [HL.out];omega)] at this
   rw [HM.out]
   exact ⟨_,_,rfl,this,hw.out⟩
def rowT (k:Nat) (l:List Int) (m q:Nat):List Int:=dT k l q++List.replicate (m - q) 0
theorem rowT_at (k:Nat) (l:List Int) {m q:Nat} (h:q<m):(rowT k l m q)[q]?=some 0:=by
 unfold rowT
 rw [List.getElem?_append_right (by rw [dT_len];omega),dT_len,Nat.sub_self,List.getElem?_replicate,if_pos (by omega)]
theorem rowT_set (k:Nat) (l:List Int) {m q:Nat} (h:q<m):(rowT k l m q).set q (tAt k l q)=rowT k l m (q+1):=by
 unfold rowT
 obtain ⟨d,hd⟩:∃ d,m - q=d+1:=⟨m - q - 1,by omega⟩
 rw [hd,show m - (q+1)=d by omega,List.set_append_right _ _ (by rw [dT_len];omega),dT_len,Nat.sub_self,List.replicate_succ,List.set_cons_zero,dT_step,List.append_assoc]
 rfl
theorem Decode (A:Option Addr) (n c m:Nat) (l:List Int) (k:Nat) (K:Int) (w:World) (hK:K=(k:Int)) (hk:k=4∨k=8) (hn:n≤1000000) (hm:n=m * k) (hA:A=none→n=0∧c=0) (hc:n≤c) (hcm:c≤9223372036854775807) (hr:Rd w A n (l.map (Value.int .u8))) (hl:Bytes l) :
 Calls Tryz.prog 163 #[.slice A n c,.int .i64 K] w fun e w'=>∃ A' c',e=.returned (.slice A' m c')∧Ow w' w.heap.size 2 A' m c' ((dT k l m).map (Value.int .i64))∧Below w.heap.size w w':=by
 subst hK
 have hlen:l.length=n:=by have:=hr.len;simpa using this
 have HL:=hide hlen
 have hk8:k≤8:=by omega
 have hk1:1≤k:=by omega
 have hkz:((k:Int) == 0)=false:=by simp;omega
 have hq:(n:Int).tdiv (k:Int)=(m:Int):=by
  rw [hm,Int.natCast_mul,Int.mul_tdiv_cancel _ (by omega)]
 have HB:=hide hl
 have HM:=hide hm
 have mn:m≤n:=by rw [hm];exact Nat.le_mul_of_pos_right m (by omega)
 have T:=hide (fun w=>isTimeSize k w hk)
 have I:=hide (fun (q:Nat) (w:World) (h1:(q:Int)+k≤n) (h2:Rd w A n (l.map (Value.int .u8)))=>be_.Int_yes A n c l q k w (by omega) (by omega) (by omega) h1 h2 hl)
 clear hlen hl hk hm
 have im:IntKind.i64.wrap (m:Int)=(m:Int):=by rw [IntKind.wrap_i64];omega
 go_enter Tryz.func163,Tryz.ntmps163
 go_wp2_with (first
  | (go_at_call 153;refine (T.out _).mono ?_;rintro e w' ⟨rfl,rfl⟩)
  | (refine mk (n:=m) (k:=m) tr_.elI64 (Below.refl w.heap.size _) (Nat.le_refl _) (Nat.le_refl _) rfl (.tmp 13) (.tmp 13) rfl .i64 .i64 _ _ rfl rfl rfl rfl (Nat.le_refl _) (by omega) (by simp [maxLen];omega) ?_;intro w1 ho1 hb1))
 have h0:(List.replicate m (Value.int .i64 0))=(rowT k l m 0).map (Value.int .i64):=by simp [rowT,dT]
 rw [h0] at ho1
 clear h0
 go_loopw [17] (fun i wr=>∃ (q:Nat),q≤m∧i=.int .i64 (q:Nat)∧Hid (Ow wr w.heap.size 2 (some ⟨w.heap.size,0,none⟩) m m ((rowT k l m q).map (Value.int .i64)))∧Hid (Below w.heap.size w wr)) (fun i _=>m - (intOf i).toNat)
 case atStart=>exact ⟨0,by omega,rfl,hide ho1,hide hb1⟩
 case round =>
  clear ho1 hb1
  obtain ⟨q,hqm,rfl,ho,hw⟩:=hrel
  by_cases hlt:q<m
  ·obtain ⟨P,hP⟩:∃ P:Nat,P=q * k:=⟨_,rfl⟩
   have hPn:P+k≤n:=by
    have:=Nat.mul_le_mul_right k (show q+1≤m by omega)
    rw [Nat.add_mul,Nat.one_mul,← hP,← HM.out] at this
    exact this
   have i1:IntKind.i64.wrap ((q:Int) * (k:Int))=(P:Int):=by rw [← Int.natCast_mul,← hP,IntKind.wrap_i64];omega
   have ht:=hide (show sgn k (uval (fld l P k))=tAt k l q by unfold tAt;rw [hP])
   have C:=hide (I.out P wr (by omega) (hr.below hw.out))
   have hset:=ho.out.set q (.int .i64 (tAt k l q))
   rw [← List.map_set,rowT_set k l hlt] at hset
   have hcl:=ho.out.cell q hlt
   rw [List.getElem?_map,rowT_at k l hlt,Option.map_some] at hcl
   have hfr:=ho.out.frozen q
   have hbs:=hide (bl_set (g:=w.heap.size) (o:=q) hw.out (Nat.le_refl _) (.int .i64 (tAt k l q)))
   replace hset:=hide hset
   generalize tAt k l q=x at *
   clear hP ho hw
   go_wp2_with fail
   refine C.out.mono ?_
   rintro e w1 ⟨rfl,rfl⟩
   simp only [Int.toNat_natCast]
   rw [ht.out]
   go_wp2
   go_roundw
   case rel=>exact ⟨q+1,by omega,by go_num,hset,hbs⟩
   case measure=>simp [intOf];omega
  ·obtain rfl:q=m:=by omega
   have e0:rowT k l q q=dT k l q:=by simp [rowT]
   have:=ho.out
   rw [e0] at this
   go_wp2
   go_ret
   exact ⟨_,_,rfl,this,hw.out⟩
end tr_
theorem madeS {α:Type} (f:α→List Value) (a:α) {K:Nat} (hf:∀ a,(f a).length=K) (hK:0<K) (vs:Array Value) (hv:vs.toList=f a) (n:Nat):(madeCells vs (n * K)).toList=(List.replicate n a).flatMap f:=by
 have hs:vs.size=K:=by rw [← hf a,← hv];simp
 apply List.ext_getElem?
 intro j
 by_cases hj:j<n * K
 ·have hd:j=j / K * K+j % K:=by rw [Nat.mul_comm];exact (Nat.div_add_mod j K).symm
  have hlt:j % K<K:=Nat.mod_lt _ hK
  have hq:j / K<n:=(Nat.div_lt_iff_lt_mul hK).2 hj
  have h2:((List.replicate n a).flatMap f)[j]?=(f a)[j % K]?:=by
   rw [show ((List.replicate n a).flatMap f)[j]?=((List.replicate n a).flatMap f)[j / K * K+j % K]? by rw [← hd]]
   exact fm_get hf _ _ _ a (by rw [List.getElem?_replicate,if_pos hq]) hlt
  have h1:(madeCells vs (n * K)).toList[j]?=some (vs[j % vs.size]!):=by simp [madeCells,hj]
  rw [h1,h2,hs,← hv,Array.getElem?_toList,Array.getElem?_eq_getElem (by rw [hs];exact hlt),getElem!_pos vs (j % K) (by rw [hs];exact hlt)]
 ·rw [List.getElem?_eq_none (by rw [Array.length_toList,size_madeCells];omega),List.getElem?_eq_none (by rw [fm_len hf,List.length_replicate];omega)]
section
variable {P:Program} {t e:TypeId} {s by_:Nat} {ops:Array Oper} {rest:List Oper} {o:Oper} {a:Act} {Q:Exit→Act→World→Prop}
theorem mkO {α:Type} (f:α→List Value) (z0:α) (hf:∀ a,(f a).length=s) (hs:0<s) (ht:P.underlying t=some (.slice e)) (z:Value) (hinfo:(P.info? e).map (fun i=>(i.zero,i.size,i.bytes))=some (some z,s,by_)) (hz:z.cells.toList=f z0) {W w0:World} {b B:Nat} (hB:Below B w0 W) (hBb:B≤b) (hb:b≤W.heap.size)
 (hgd:o.guard=none) (l c:Operand) (hop:o.op=Op.makeSlice t l c) (kl kc:IntKind) (L C:Int) (n:Nat) (hl:a.eval l=.int kl L) (hc:a.eval c=.int kc C) (hL:L=(n:Int)) (hC:C=(n:Int))
 (b2:by_ * n≤281474976710656) (b3:n≤maxLen)
 (h:∀ w',Ok s w' b e (some ⟨W.heap.size,0,none⟩) n n ((List.replicate n z0).flatMap f)→Below B w0 w'→wpList P ops Q rest (a.put o.dst (.slice (some ⟨W.heap.size,0,none⟩) n n)) w') :
 wpList P ops Q (o :: rest) a W:=by
 obtain ⟨i,hi,hzz,hsz,hbb⟩:=info_parts hinfo
 refine wpList_make_full W hgd l c t hop b e i z s ht hi hzz hsz kl kc L C n hl hc hL hC (by rw [hbb];exact b2) b3 hb ?_
 intro w' hown hg
 rw [madeS f z0 hf hs z.cells hz n] at hown
 exact h w' ⟨Nat.le_trans hb hg.size,hown⟩ (hB.grown hg (Nat.le_trans hBb hb) (fun k hk=>by cases hk))
end
open Go.ChangeShapes Go.WideShapes Go.ChangeAt Go.RowKit Go.Extern.Stop Go.Stop Go.Extern
def Tt (w:World):Prop:=w.cell? ⟨3,0,none⟩=some (.iface 294 (.agg #[.pointer (some ⟨12,231,none⟩)]))
theorem Tt.below {w w':World} (h:Tt w) (hb:Below w.heap.size w w'):Tt w':=cellE hb h
theorem tt_rt:(Tryz.prog.cutTypes.find? (·.1 == "internal/reflectlite.rtype")).map (·.2)=some 294:=by kernel_rfl
theorem tt_et:Tryz.prog.globalNamed "errors.errorType"=some 3:=by kernel_rfl
theorem tt_oneRow:((List.range (510 - 100)).filter fun t=>Tryz.prog.rowNamed t [101,114,114,111,114])=[231]:=by kernel_rfl
theorem tt_size:Tryz.prog.types.size=510 - 100:=by kernel_rfl
theorem tt_of {W:World} (h:laidMetH Tryz.prog [("errors.errorType",Rows.laid_errors_errorType)] W):Tt W:=by
 have h':laidMet Tryz.prog [] W∧handlesMet Tryz.prog [("errors.errorType",Rows.laid_errors_errorType)] W:=h
 obtain ⟨name,u,ty,e1,e2,e3,e4,e5⟩:=h'.2 _ (List.mem_singleton.2 rfl)
 have en:name=[101,114,114,111,114]:=(Option.some.inj e1).symm
 subst en
 obtain rfl:=Option.some.inj (tt_rt.symm.trans e2)
 have hm:ty ∈ (List.range (510 - 100)).filter fun t=>Tryz.prog.rowNamed t [101,114,114,111,114]:=List.mem_filter.2 ⟨List.mem_range.2 (by rw [← tt_size];exact e3),e4⟩
 rw [tt_oneRow] at hm
 obtain rfl:=List.mem_singleton.1 hm
 have hh:typeHandle Tryz.prog 231=.pointer (some ⟨12,231,none⟩):=by kernel_rfl
 rw [hh] at e5
 have:=World.var?_cell tt_et e5 0
 simp at this
 exact this
namespace era_
theorem As_nil (t:Value) (w:World):Calls Tryz.prog 204 #[.nilIface,t] w fun e w'=>e=.returned (.bool false)∧w=w':=by
 go_enter Tryz.func204,Tryz.ntmps204
 go_wp2
 go_ret
 exact ⟨rfl,rfl⟩
theorem valueOfP (t:Addr) (w:World):(ReflectliteValue.unpack (.iface 237 (.pointer (some t)))).run Tryz.prog w
 = .ok (.agg #[.pointer (some ⟨12,237,none⟩),.pointer (some ⟨w.heap.size,0,none⟩),.int .u64 150]) (w.alloc (.cells #[.pointer (some t)] 237)):=by kernel_rfl
theorem typeP (a:Addr) (w:World):(ReflectliteValue.methodAny (ReflectliteValue.valueError "reflectlite.Value.Type" 0) (fun t _ _ _=>ReflectliteType.toType t) #[.agg #[.pointer (some ⟨12,237,none⟩),.pointer (some a),.int .u64 150]]).run Tryz.prog w
 = .ok (.iface 294 (.agg #[.pointer (some ⟨12,237,none⟩)])) w:=by kernel_rfl
theorem methodKind (h:Value) (w:World):(Go.method 510 294 (.agg #[h]) "Kind").run Tryz.prog w=.ok (372,h) w:=by kernel_rfl
theorem kindP (w:World):((ReflectliteType.abiMethod fun t=>(fun a:Nat=>Value.int IntKind.u8 (a:Int)) <$> Rtype.kind t) #[.pointer (some ⟨12,237,none⟩)]).run Tryz.prog w=.ok (.int .u8 22) w:=by kernel_rfl
theorem kindE (w:World):((ReflectliteType.abiMethod fun t=>(fun a:Nat=>Value.int IntKind.u8 (a:Int)) <$> Rtype.kind t) #[.pointer (some ⟨12,235,none⟩)]).run Tryz.prog w=.ok (.int .u8 25) w:=by kernel_rfl
theorem partsP (a:Addr) (w:World):(ReflectliteValue.parts (.agg #[.pointer (some ⟨12,237,none⟩),.pointer (some a),.int .u64 150])).run Tryz.prog w=.ok (some (237,a,150)) w:=by kernel_rfl
theorem isNilP (a p:Addr) (W:World) (ha:W.cell? a=some (.pointer (some p))) :
 (ReflectliteValue.method (ReflectliteValue.valueError "reflectlite.Value.IsNil" 0) ReflectliteValue.isNil #[.agg #[.pointer (some ⟨12,237,none⟩),.pointer (some a),.int .u64 150]]).run Tryz.prog W=.ok (.bool false) W:=by
 delta ReflectliteValue.method ReflectliteValue.method.match_2
 dsimp [Array.getLit]
 simp only [Sem.run_bind,partsP,Result.andThen]
 simp [ReflectliteValue.isNil,loadVar,isAgg,underlying,Tryz.underlying237,ha,Result.andThen]
theorem methodElem (h:Value) (w:World):(Go.method 510 294 (.agg #[h]) "Elem").run Tryz.prog w=.ok (382,.agg #[h]) w:=by kernel_rfl
theorem methodImplements (h:Value) (w:World):(Go.method 510 294 (.agg #[h]) "Implements").run Tryz.prog w=.ok (383,.agg #[h]) w:=by kernel_rfl
theorem methodAssignableTo (h:Value) (w:World):(Go.method 510 294 (.agg #[h]) "AssignableTo").run Tryz.prog w=.ok (380,.agg #[h]) w:=by kernel_rfl
theorem elemP (w:World):(ReflectliteType.method ReflectliteType.elem #[.agg #[.pointer (some ⟨12,237,none⟩)]]).run Tryz.prog w=.ok (.iface 294 (.agg #[.pointer (some ⟨12,235,none⟩)])) w:=by kernel_rfl
theorem implementsE (w:World):(ReflectliteType.relation "Implements" ReflectliteType.implements_ #[.agg #[.pointer (some ⟨12,235,none⟩)],.iface 294 (.agg #[.pointer (some ⟨12,231,none⟩)])]).run Tryz.prog w=.ok (.bool true) w:=by kernel_rfl
theorem typeOfE (v:Value) (w:World):(ReflectliteType.typeOf #[.iface 235 v]).run Tryz.prog w=.ok (.iface 294 (.agg #[.pointer (some ⟨12,235,none⟩)])) w:=by kernel_rfl
theorem assignableE (w:World):(ReflectliteType.relation "AssignableTo" ReflectliteType.assignableTo #[.agg #[.pointer (some ⟨12,235,none⟩)],.iface 294 (.agg #[.pointer (some ⟨12,235,none⟩)])]).run Tryz.prog w=.ok (.bool true) w:=by kernel_rfl
theorem valueOfE (v:Value) (w:World):(ReflectliteValue.unpack (.iface 235 (.agg #[v]))).run Tryz.prog w
 = .ok (.agg #[.pointer (some ⟨12,235,none⟩),.pointer (some ⟨w.heap.size,0,none⟩),.int .u64 153]) (w.alloc (.cells #[v] 235)):=by kernel_rfl
theorem elemOfP (w:World):(Rtype.elem? 237).run Tryz.prog w=.ok (some 235) w:=by kernel_rfl
theorem mkE (p:Addr) (w:World):(ReflectliteValue.mk 235 p ReflectliteValue.flagAddr).run Tryz.prog w=.ok (.agg #[.pointer (some ⟨12,235,none⟩),.pointer (some p),.int .u64 409]) w:=by kernel_rfl
theorem elemV (a p:Addr) (W:World) (ha:W.cell? a=some (.pointer (some p))) :
 (ReflectliteValue.method (ReflectliteValue.valueError "reflectlite.Value.Elem" 0) ReflectliteValue.elem #[.agg #[.pointer (some ⟨12,237,none⟩),.pointer (some a),.int .u64 150]]).run Tryz.prog W
   = .ok (.agg #[.pointer (some ⟨12,235,none⟩),.pointer (some p),.int .u64 409]) W:=by
 delta ReflectliteValue.method ReflectliteValue.method.match_2
 dsimp [Array.getLit]
 simp only [Sem.run_bind,partsP,Result.andThen]
 simp [ReflectliteValue.elem,loadVar,isAgg,underlying,Tryz.underlying237,ha,Result.andThen,elemOfP,mkE]
theorem partsEa (a:Addr) (w:World):(ReflectliteValue.parts (.agg #[.pointer (some ⟨12,235,none⟩),.pointer (some a),.int .u64 409])).run Tryz.prog w=.ok (some (235,a,409)) w:=by kernel_rfl
theorem partsE (a:Addr) (w:World):(ReflectliteValue.parts (.agg #[.pointer (some ⟨12,235,none⟩),.pointer (some a),.int .u64 153])).run Tryz.prog w=.ok (some (235,a,153)) w:=by kernel_rfl
theorem directE (w:World):(Rtype.directlyAssignable 235 235).run Tryz.prog w=.ok true w:=by kernel_rfl
theorem setE (ta b:Addr) (x:Int) (old:Value) (W:World) (hb:W.cell? b=some (.int .u8 x)) (ht:W.cell? ta=some old) (hf:W.frozen? ta=false) :
 (ReflectliteValue.set #[.agg #[.pointer (some ⟨12,235,none⟩),.pointer (some ta),.int .u64 409],.agg #[.pointer (some ⟨12,235,none⟩),.pointer (some b),.int .u64 153]]).run Tryz.prog W
   = .ok (.tuple #[]) (W.setCell ta (.int .u8 x)):=by
 delta ReflectliteValue.set ReflectliteValue.set.match_3
 dsimp [Array.getLit]
 simp only [Sem.run_bind,partsEa,partsE,Result.andThen]
 simp [ReflectliteValue.flagAddr,loadVar,isAgg,underlying,Tryz.underlying235,hb,Result.andThen,directE,storeVar,Value.cells,storeCells,Addr.add,go_sem]
 simp [ht,hf]
theorem As_hit (x:Int) (t:Addr) (old:Value) (w:World) (hg:Tt w) (ht0:w.cell? t=some old) (hf0:w.frozen? t=false) :
 Calls Tryz.prog 204 #[.iface 235 (.agg #[.int .u8 x]),.iface 237 (.pointer (some t))] w fun ev w'=>ev=.returned (.bool true)∧∃ w1:World,Below w.heap.size w w1∧w'=w1.setCell t (.int .u8 x):=by
 have h6:=@run_callFunc_extern Tryz.prog 228 _ (fun args=>ReflectliteValue.unpack (args.getD 0 (.tuple #[]))) Tryz.func228 (by kernel_rfl) (by kernel_rfl) (by kernel_rfl) (by kernel_rfl)
 have h7:=@run_callFunc_extern Tryz.prog 229 _ (ReflectliteValue.methodAny (ReflectliteValue.valueError "reflectlite.Value.Type" 0) (fun t _ _ _=>ReflectliteType.toType t)) Tryz.func229 (by kernel_rfl) (by kernel_rfl) (by kernel_rfl) (by kernel_rfl)
 have h8:=@run_callFunc_extern Tryz.prog 230 _ (ReflectliteValue.method (ReflectliteValue.valueError "reflectlite.Value.IsNil" 0) ReflectliteValue.isNil) Tryz.func230 (by kernel_rfl) (by kernel_rfl) (by kernel_rfl) (by kernel_rfl)
 have h27:=@run_callFunc_extern Tryz.prog 372 _ (ReflectliteType.abiMethod fun t=>do pure (.int .u8 (← Rtype.kind t))) Tryz.func372 (by kernel_rfl) (by kernel_rfl) (by kernel_rfl) (by kernel_rfl)
 have h37:=@run_callFunc_extern Tryz.prog 382 _ (ReflectliteType.method ReflectliteType.elem) Tryz.func382 (by kernel_rfl) (by kernel_rfl) (by kernel_rfl) (by kernel_rfl)
 have h38:=@run_callFunc_extern Tryz.prog 383 _ (ReflectliteType.relation "Implements" ReflectliteType.implements_) Tryz.func383 (by kernel_rfl) (by kernel_rfl) (by kernel_rfl) (by kernel_rfl)
 have h10:=@run_callFunc_extern Tryz.prog 251 _ ReflectliteType.typeOf Tryz.func251 (by kernel_rfl) (by kernel_rfl) (by kernel_rfl) (by kernel_rfl)
 have h35:=@run_callFunc_extern Tryz.prog 380 _ (ReflectliteType.relation "AssignableTo" ReflectliteType.assignableTo) Tryz.func380 (by kernel_rfl) (by kernel_rfl) (by kernel_rfl) (by kernel_rfl)
 have h11:=@run_callFunc_extern Tryz.prog 252 _ (ReflectliteValue.method (ReflectliteValue.valueError "reflectlite.Value.Elem" 0) ReflectliteValue.elem) Tryz.func252 (by kernel_rfl) (by kernel_rfl) (by kernel_rfl) (by kernel_rfl)
 have h12:=@run_callFunc_extern Tryz.prog 253 _ ReflectliteValue.set Tryz.func253 (by kernel_rfl) (by kernel_rfl) (by kernel_rfl) (by kernel_rfl)
 have tO:=typeOfE
 have mA:=methodAssignableTo
 have a25:=assignableE
 have v25:=valueOfE (.int .u8 x)
 have f6:=valueOfP
 have f7:=typeP
 have mK:=methodKind
 have mE:=methodElem
 have mI:=methodImplements
 have k27:=kindP
 have k25:=kindE
 have e27:=elemP
 have i25:=implementsE
 have htl:t.block<w.heap.size:=cell_lt ht0
 have hlt:3<w.heap.size:=cell_lt hg
 obtain ⟨W1,hW1⟩:∃ W1,W1=(w.alloc (.cells #[.pointer (some t)] 237)).alloc (.cells #[.pointer (some ⟨12,237,none⟩),.pointer (some ⟨w.heap.size,0,none⟩),.int .u64 150] 267):=⟨_,rfl⟩
 have n8:=isNilP ⟨w.heap.size,0,none⟩ t ((w.alloc (.cells #[.pointer (some t)] 237)).alloc (.cells #[.pointer (some ⟨12,237,none⟩),.pointer (some ⟨w.heap.size,0,none⟩),.int .u64 150] 267)) (by simp)
 have hg2:((w.alloc (.cells #[.pointer (some t)] 237)).alloc (.cells #[.pointer (some ⟨12,237,none⟩),.pointer (some ⟨w.heap.size,0,none⟩),.int .u64 150] 267)).cell? ⟨3,0,none⟩=some (.iface 294 (.agg #[.pointer (some ⟨12,231,none⟩)])):=cellA (cellA hg)
 have el:=elemV ⟨w.heap.size,0,none⟩ t (((w.alloc (.cells #[.pointer (some t)] 237)).alloc (.cells #[.pointer (some ⟨12,237,none⟩),.pointer (some ⟨w.heap.size,0,none⟩),.int .u64 150] 267)).alloc (.cells #[.pointer (some ⟨12,237,none⟩),.pointer (some ⟨w.heap.size,0,none⟩),.int .u64 150] 267)) (by rw [World.cell?_alloc_lt _ _ ⟨w.heap.size,0,none⟩ (by simp;omega)];simp)
 have st:=setE t ⟨w.heap.size+1+1+1,0,none⟩ x old ((((w.alloc (.cells #[.pointer (some t)] 237)).alloc (.cells #[.pointer (some ⟨12,237,none⟩),.pointer (some ⟨w.heap.size,0,none⟩),.int .u64 150] 267)).alloc (.cells #[.pointer (some ⟨12,237,none⟩),.pointer (some ⟨w.heap.size,0,none⟩),.int .u64 150] 267)).alloc (.cells #[.int .u8 x] 235))
  (by rw [World.cell?_alloc_at _ _ _ _ (by simp)];rfl)
  (cellA (cellA (cellA (cellA ht0))))
  (by rw [World.frozen?_alloc_old _ _ t (by simp;omega),World.frozen?_alloc_old _ _ t (by simp;omega),World.frozen?_alloc_old _ _ t (by simp;omega),World.frozen?_alloc_old _ _ t (Nat.ne_of_lt htl)];exact hf0)
 go_enter Tryz.func204,Tryz.ntmps204
 go_wp2
 refine wp_loop_rounds 1 ?_
 rw [rounds_succ]
 go_wp2
 go_ret
 exact ⟨rfl,_,bl_alloc (bl_alloc (bl_alloc (bl_new _ _) _) _) _,rfl⟩
end era_
def rowTT (l:List Int) (m q:Nat):List TT:=dTT l q++List.replicate (m - q) (0,false,0)
theorem rowTT_at (l:List Int) {m q:Nat} (h:q<m):(rowTT l m q)[q]?=some (0,false,0):=by
 unfold rowTT
 rw [List.getElem?_append_right (by rw [dTT_len];omega),dTT_len,Nat.sub_self,List.getElem?_replicate,if_pos (by omega)]
theorem rowTT_set (l:List Int) {m q:Nat} (h:q<m):(rowTT l m q).set q (d6 l q)=rowTT l m (q+1):=by
 unfold rowTT
 obtain ⟨d,hd⟩:∃ d,m - q=d+1:=⟨m - q - 1,by omega⟩
 rw [hd,show m - (q+1)=d by omega,List.set_append_right _ _ (by rw [dTT_len];omega),dTT_len,Nat.sub_self,List.replicate_succ,List.set_cons_zero,dTT_step,List.append_assoc]
 rfl
theorem d6_fld (l:List Int) (i:Nat):d6 (fld l (i * 6) 6) 0=d6 l i:=by
 have h0:fld (fld l (i * 6) 6) (0 * 6) 4=fld l (i * 6) 4:=by
  unfold fld
  rw [Nat.zero_mul,List.drop_zero,List.take_take]
  rfl
 have h:∀ j,j<6→(fld l (i * 6) 6)[j]?=l[i * 6+j]?:=fun j hj=>by
  unfold fld
  rw [List.getElem?_take,if_pos hj,List.getElem?_drop]
 unfold d6
 rw [h0,Nat.zero_mul,Nat.zero_add,Nat.zero_add,h 4 (by omega),h 5 (by omega)]
theorem fl_fld (l:List Int) (i:Nat):(fld l (i * 6) 6)[4]?.getD 0=l[i * 6+4]?.getD 0:=by
 unfold fld
 rw [List.getElem?_take,if_pos (by omega),List.getElem?_drop]
namespace tt_
theorem decodeFlag_yes (x:Int) (w:World) (h0:0≤x) (h1:x≤1):Calls Tryz.prog 227 #[.int .u8 x] w fun e w'=>e=.returned (.tuple #[.bool (decide (x=1)),.nilIface])∧w=w':=by
 go_enter Tryz.func227,Tryz.ntmps227
 go_wp2
 go_ret2
 exact ⟨rfl,rfl⟩
theorem decodeFlag_no (x:Int) (w:World) (h0:0≤x) (h1:1<x):Calls Tryz.prog 227 #[.int .u8 x] w fun e w'=>e=.returned (.tuple #[.bool false,.iface 235 (.agg #[.int .u8 x])])∧w=w':=by
 go_enter Tryz.func227,Tryz.ntmps227
 go_wp2
 go_ret2
 exact ⟨rfl,rfl⟩
theorem decodeRecord_yes (A:Option Addr) (n c:Nat) (l:List Int) (w:World) (hn:n=6) (hr:Rd w A 6 (l.map (Value.int .u8))) (hl:Bytes l) (hf:l[4]?.getD 0≤1) :
 Calls Tryz.prog 203 #[.slice A n c] w fun e w'=>e=.returned (.tuple #[.agg #[.int .i32 (d6 l 0).1,.bool (d6 l 0).2.1,.int .u8 (d6 l 0).2.2],.nilIface])∧Below w.heap.size w w':=by
 subst hn
 have hlen:l.length=6:=by have:=hr.len;simpa using this
 have I:=hide (fun (w:World) (h1:Rd w A 6 (l.map (Value.int .u8)))=>be_.Int_yes A 6 c l 0 4 w (by omega) (by omega) (by omega) (by omega) h1 hl)
 have hok:=d6_ok l hl 0 (by omega)
 have hd:d6 l 0=(sgn 4 (uval (fld l 0 4)),decide (l[4]?.getD 0=1),l[5]?.getD 0):=by unfold d6;rw [Nat.zero_mul,Nat.zero_add,Nat.zero_add]
 have F:=hide (fun w=>decodeFlag_yes (l[4]?.getD 0) w (hl 4).1 hf)
 obtain ⟨ad,rfl,c4⟩:=(hr.below (bl_new w (.cells #[.int .i32 0,.bool false,.int .u8 0] 156))).int (i:=4) (by omega)
 obtain ⟨_,e1,c5⟩:=(hr.below (bl_new w (.cells #[.int .i32 0,.bool false,.int .u8 0] 156))).int (i:=5) (by omega)
 cases e1
 simp [go_sem] at c4 c5
 have hr2:=hide (hr.below (bl_new w (.cells #[.int .i32 0,.bool false,.int .u8 0] 156)))
 rw [hd] at hok ⊢
 generalize hx:sgn 4 (uval (fld l 0 4))=x at *
 have hv:=hide (show sgn ((4:Nat):Int) (uval (fld l ((0:Int)).toNat ((4:Int)).toNat))=x from hx)
 generalize l[4]?.getD 0=f at *
 generalize l[5]?.getD 0=y at *
 generalize decide (f=1)=d at *
 obtain ⟨z0,z1,z2,z3⟩:=hok
 dsimp only at z0 z1 z2 z3 ⊢
 have hcv:∀ w:World,(convert 2 21 (.int .i64 x)).run Tryz.prog w=.ok (.int .i32 x) w:=fun w=>by simp [go_sem];rw [IntKind.wrap_i32];omega
 clear hx hd hr hl hlen hf
 go_enter Tryz.func203,Tryz.ntmps203
 go_wp2_with fail
 refine (I.out _ hr2.out).mono ?_
 rintro e w1 ⟨rfl,rfl⟩
 rw [show sgn 4 (uval (fld l (0:Int).toNat (4:Int).toNat))=x from hv.out]
 go_wp2_with fail
 refine (F.out _).mono ?_
 rintro e w1 ⟨rfl,rfl⟩
 go_wp2
 exact bodyPost_ret (v:=.tuple #[.agg #[.int .i32 x,.bool d,.int .u8 y],.nilIface]) (by simp [results,Tryz.results203,go_sem]) rfl ⟨rfl,bl_new _ _⟩
theorem decodeRecord_no (A:Option Addr) (n c:Nat) (l:List Int) (w:World) (hn:n=6) (hr:Rd w A 6 (l.map (Value.int .u8))) (hl:Bytes l) (hf:(1:Int)<l[4]?.getD 0) :
 Calls Tryz.prog 203 #[.slice A n c] w fun e w'=>(∃ f,e=.returned (.tuple #[.agg #[.int .i32 0,.bool false,.int .u8 0],.iface 235 (.agg #[.int .u8 f])]))∧Below w.heap.size w w':=by
 subst hn
 have hlen:l.length=6:=by have:=hr.len;simpa using this
 have I:=hide (fun (w:World) (h1:Rd w A 6 (l.map (Value.int .u8)))=>be_.Int_yes A 6 c l 0 4 w (by omega) (by omega) (by omega) (by omega) h1 hl)
 have F:=hide (fun w=>decodeFlag_no (l[4]?.getD 0) w (hl 4).1 hf)
 obtain ⟨ad,rfl,c4⟩:=(hr.below (bl_new w (.cells #[.int .i32 0,.bool false,.int .u8 0] 156))).int (i:=4) (by omega)
 simp [go_sem] at c4
 have hr2:=hide (hr.below (bl_new w (.cells #[.int .i32 0,.bool false,.int .u8 0] 156)))
 obtain ⟨x,hx⟩:∃ x,sgn ((4:Nat):Int) (uval (fld l ((0:Int)).toNat ((4:Int)).toNat))=x:=⟨_,rfl⟩
 have hv:=hide hx
 generalize l[4]?.getD 0=f at *
 clear hx hr hl hlen hf
 go_enter Tryz.func203,Tryz.ntmps203
 go_wp2_with fail
 refine (I.out _ hr2.out).mono ?_
 rintro e w1 ⟨rfl,rfl⟩
 rw [show sgn 4 (uval (fld l (0:Int).toNat (4:Int).toNat))=x from hv.out]
 go_wp2_with fail
 refine (F.out _).mono ?_
 rintro e w1 ⟨rfl,rfl⟩
 go_wp2
 exact bodyPost_ret (v:=.tuple #[.agg #[.int .i32 0,.bool false,.int .u8 0],.iface 235 (.agg #[.int .u8 f])]) (by simp [results,Tryz.results203,go_sem]) rfl ⟨⟨_,rfl⟩,bl_new _ _⟩
theorem Decode (A:Option Addr) (n c m:Nat) (l:List Int) (w:World) (hT:Tt w) (hn:n≤100000) (hm:n=m * 6) (hA:A=none→n=0∧c=0) (hc:n≤c) (hcm:c≤9223372036854775807) (hr:Rd w A n (l.map (Value.int .u8))) (hl:Bytes l) :
 Calls Tryz.prog 161 #[.slice A n c] w fun e w'=>((fl6 l m=true∧∃ A' c',e=.returned (.tuple #[.slice A' m c',.bool true])∧Ok 3 w' w.heap.size 156 A' m c' (tcs (dTT l m)))∨(fl6 l m=false∧e=.returned (.tuple #[.slice none 0 0,.bool false])))∧Below w.heap.size w w':=by
 have hlen:l.length=n:=by have:=hr.len;simpa using this
 have HL:=hide hlen
 have HB:=hide hl
 have HT:=hide hT
 have hq1:(n:Int).tdiv 6=(m:Int):=by rw [Int.tdiv_eq_ediv_of_nonneg (by omega)];omega
 have hq2:(n:Int) / 6=(m:Int):=by omega
 have hq3:n / 6=m:=by omega
 have hmn:m≤100000:=by omega
 have HM:=hide hm
 have Y:=hide (fun (A:Option Addr) (N C i:Nat) (w:World) (hN:N=6) (h1:Rd w A 6 ((fld l (i * 6) 6).map (Value.int .u8))) (h2:l[i * 6+4]?.getD 0≤1)=>by
  have:=tt_.decodeRecord_yes A N C (fld l (i * 6) 6) w hN h1 (fld_bytes hl _ _) (by rw [fl_fld];exact h2)
  rwa [d6_fld] at this)
 have Z:=hide (fun (A:Option Addr) (N C i:Nat) (w:World) (hN:N=6) (h1:Rd w A 6 ((fld l (i * 6) 6).map (Value.int .u8))) (h2:(1:Int)<l[i * 6+4]?.getD 0) =>
  tt_.decodeRecord_no A N C (fld l (i * 6) 6) w hN h1 (fld_bytes hl _ _) (by rw [fl_fld];exact h2))
 clear hlen hl hm hT
 go_enter Tryz.func161,Tryz.ntmps161
 go_wp2_with (refine mkO (s:=3) (by_:=8) (n:=m) tc (0,false,0) tc_len (by decide) Tryz.underlying24 (.agg #[.int .i32 0,.bool false,.int .u8 0]) (by kernel_rfl) rfl (Below.refl w.heap.size _) (Nat.le_refl _) (Nat.le_refl _) rfl (.tmp 11) (.tmp 11) rfl .i64 .i64 _ _ rfl rfl rfl rfl (by omega) (by simp [maxLen];omega) ?_;intro w1 ho1 hb1)
 have h0:(List.replicate m ((0:Int),false,(0:Int))).flatMap tc=tcs (rowTT l m 0):=by simp [rowTT,dTT,tcs]
 rw [h0] at ho1
 clear h0
 go_loopw [15] (fun i wr=>∃ (q:Nat),q≤m∧i=.int .i64 (q:Nat)∧Hid (fl6 l q=true)∧Hid (Ok 3 wr w.heap.size 156 (some ⟨w.heap.size,0,none⟩) m m (tcs (rowTT l m q)))∧Hid (Below w.heap.size w wr)) (fun i _=>m - (intOf i).toNat)
 case atStart=>exact ⟨0,by omega,rfl,hide rfl,hide ho1,hide hb1⟩
 case round =>
  clear ho1 hb1
  obtain ⟨q,hqm,rfl,ha,ho,hw⟩:=hrel
  by_cases hlt:q<m
  ·obtain ⟨P,hP⟩:∃ P:Nat,P=q * 6:=⟨_,rfl⟩
   obtain ⟨P6,hP6⟩:∃ P6:Nat,P6=P+6:=⟨_,rfl⟩
   obtain ⟨q1,hQ⟩:∃ q1:Nat,q1=q+1:=⟨_,rfl⟩
   have hPn:P6≤n:=by rw [HM.out];omega
   have hPc:P6≤c:=by omega
   have hPP:P≤P6:=by omega
   have i1:IntKind.i64.wrap ((q:Int) * 6)=(P:Int):=by rw [IntKind.wrap_i64];omega
   have i2:IntKind.i64.wrap ((q:Int)+1)=(q1:Int):=by rw [IntKind.wrap_i64];omega
   have i3:IntKind.i64.wrap ((q1:Int) * 6)=(P6:Int):=by rw [IntKind.wrap_i64];omega
   have hN:=hide (show P6 - P=6 by omega)
   have HQ:=hide hQ
   have hne:¬ c=P:=by omega
   obtain ⟨ad,e1,_⟩:=(hr.below hw.out).int (i:=P) (by omega)
   subst e1
   have hrd:=hide (show Rd wr (some (ad.add P)) 6 ((fld l P 6).map (Value.int .u8)) by
    have:=((hr.below hw.out).cut (k:=P) (cap:=c) (by omega) hc).take (k:=6) (by omega)
    rw [if_neg hne,← List.map_drop,← List.map_take] at this
    exact this)
   have hst:=fl6_step l q
   rw [ha.out,Bool.true_and] at hst
   have hno:=fun h:(1:Int)<l[q * 6+4]?.getD 0=>fl6_no (l:=l) (m:=m) (i:=q) hlt h
   have Yq:=hide (fun N C w hN h1 h2=>Y.out (some (ad.add P)) N C q w hN h1 h2)
   have Zq:=hide (fun N C w hN h1 h2=>Z.out (some (ad.add P)) N C q w hN h1 h2)
   rw [← hP] at Yq Zq hst hno
   have hset:=hide (rowTT_set l hlt)
   rw [← hQ] at hset hst
   have hat:=hide (rowTT_at l hlt)
   obtain ⟨o,d,y,hd6⟩:∃ o d y,d6 l q=(o,d,y):=⟨_,_,_,rfl⟩
   rw [hd6] at Yq hset
   generalize l[P+4]?.getD 0=x at *
   clear hP hd6 hP6 hQ
   by_cases hx:1<x
   ·have hf:=hide (hno hx)
    clear hst hno Yq ho hset hat
    go_wp2_with fail
    refine (Zq.out _ _ _ hN.out hrd.out hx).mono ?_
    rintro e w2 ⟨⟨f,rfl⟩,h2⟩
    have hw2:=hide (bel_next hw.out h2)
    have HT2:=hide (HT.out.below hw2.out)
    clear hw hrd h2 Zq
    go_wp2_with fail
    have ht0:((w2.alloc (.cells #[.int .i32 0,.bool false,.int .u8 0] 156)).alloc (.cells #[.int .u8 0] 235)).cell? ⟨w2.heap.size+1,0,none⟩=some (.int .u8 0):=by simp
    have hf0:((w2.alloc (.cells #[.int .i32 0,.bool false,.int .u8 0] 156)).alloc (.cells #[.int .u8 0] 235)).frozen? ⟨w2.heap.size+1,0,none⟩=false:=by simp
    have hb3:=hide (bl_alloc (bl_alloc hw2.out (.cells #[.int .i32 0,.bool false,.int .u8 0] 156)) (.cells #[.int .u8 0] 235))
    have hsz:=hw2.out.size
    refine (era_.As_hit f _ _ _ (cellA (cellA HT2.out)) ht0 hf0).mono ?_
    rintro e w' ⟨rfl,w4,h4,rfl⟩
    have hb5:=hide (bl_set (g:=w2.heap.size+1) (o:=0) (bel_next hb3.out h4) (by omega) (.int .u8 f))
    clear hb3 h4 ht0 hf0 HT2 hw2
    go_wp2
    go_ret2
    exact ⟨.inr ⟨hf.out,rfl⟩,hb5.out⟩
   ·have hs:=hide (show fl6 l q1=true by rw [hst];exact decide_eq_true (by omega))
    clear hst hno Zq
    go_wp2_with fail
    refine (Yq.out _ _ _ hN.out hrd.out (by omega)).mono ?_
    rintro e w2 ⟨rfl,h2⟩
    have hw2:=hide (bel_next hw.out h2)
    have ho2:=hide (ho.out.below h2)
    clear hw hrd h2 Yq ho
    go_wp2_with fail
    refine (era_.As_nil _ _).mono ?_
    rintro e w' ⟨rfl,rfl⟩
    have bx:=hide ((Bx.new w2 [.int .i32 o,.bool d,.int .u8 y] 156).alloc (.cells #[.int .u8 0] 235))
    have hb3:=hide (bl_alloc (bl_alloc hw2.out (.cells #[.int .i32 o,.bool d,.int .u8 y] 156)) (.cells #[.int .u8 0] 235))
    have ho3:=hide ((ho2.out.alloc (.cells #[.int .i32 o,.bool d,.int .u8 y] 156)).alloc (.cells #[.int .u8 0] 235))
    have b0:((w2.alloc (.cells #[.int .i32 o,.bool d,.int .u8 y] 156)).alloc (.cells #[.int .u8 0] 235)).cell? ⟨w2.heap.size,0,none⟩=some (.int .i32 o):=bx.out.2.1 0 _ rfl
    have b1:((w2.alloc (.cells #[.int .i32 o,.bool d,.int .u8 y] 156)).alloc (.cells #[.int .u8 0] 235)).cell? ⟨w2.heap.size,1,none⟩=some (.bool d):=bx.out.2.1 1 _ rfl
    have b2:((w2.alloc (.cells #[.int .i32 o,.bool d,.int .u8 y] 156)).alloc (.cells #[.int .u8 0] 235)).cell? ⟨w2.heap.size,2,none⟩=some (.int .u8 y):=bx.out.2.1 2 _ rfl
    clear bx hw2 ho2
    generalize ((w2.alloc (.cells #[.int .i32 o,.bool d,.int .u8 y] 156)).alloc (.cells #[.int .u8 0] 235))=w3 at *
    obtain ⟨g0,g1,g2⟩:=tcs_get hat.out
    have p0:=ho3.out.cell (q * 3) (by omega)
    have p1:=ho3.out.cell (q * 3+1) (by omega)
    have p2:=ho3.out.cell (q * 3+2) (by omega)
    rw [g0] at p0
    rw [g1] at p1
    rw [g2] at p2
    have z0:=ho3.out.frozen (q * 3)
    have z1:=ho3.out.frozen (q * 3+1)
    have z2:=ho3.out.frozen (q * 3+2)
    have hst:=(((ho3.out.set (q * 3) (.int .i32 o)).set (q * 3+1) (.bool d)).set (q * 3+2) (.int .u8 y))
    rw [tcs_set (o,d,y),hset.out] at hst
    have hbs:=hide (bl_set (bl_set (bl_set (g:=w.heap.size) (o:=q * 3) hb3.out (Nat.le_refl _) (.int .i32 o)) (g:=w.heap.size) (o:=q * 3+1) (Nat.le_refl _) (.bool d)) (g:=w.heap.size) (o:=q * 3+2) (Nat.le_refl _) (.int .u8 y))
    replace hst:=hide hst
    clear ho3 hb3 hat hset g0 g1 g2
    go_wp2
    go_roundw
    case rel=>exact ⟨q1,by rw [HQ.out];omega,rfl,hs,hst,hbs⟩
    case measure=>simp [intOf];rw [HQ.out];omega
  ·obtain rfl:q=m:=by omega
   have e0:rowTT l q q=dTT l q:=by simp [rowTT]
   have:=ho.out
   rw [e0] at this
   go_wp2
   go_ret2
   exact ⟨.inl ⟨ha.out,_,_,rfl,this⟩,hw.out⟩
theorem encodeFlag (d:Bool) (w:World):Calls Tryz.prog 154 #[.bool d] w fun e w'=>e=.returned (.int .u8 (if d then 1 else 0))∧w=w':=by
 cases d
 all_goals
  go_enter Tryz.func154,Tryz.ntmps154
  go_wp2
  go_ret
  exact ⟨rfl,rfl⟩
theorem Encode (A:Option Addr) (n c m:Nat) (ts:List TT) (w:World) (hn:n≤100000) (hm:m=n * 6) (hA:A=none→n=0∧c=0) (hr:Rk 3 w A n (tcs ts)) (hok:∀ t ∈ ts,ttOk t) :
 Calls Tryz.prog 113 #[.slice A n c] w fun e w'=>∃ A' c',e=.returned (.slice A' m c')∧Ow w' w.heap.size 5 A' m c' ((eTT ts).map (Value.int .u8))∧Below w.heap.size w w':=by
 have hl:ts.length=n:=by have:=hr.len;rw [tcs_len] at this;omega
 have HL:=hide hl
 have HO:=hide hok
 have P:=hide (fun v w h4 h5=>be_.Append none 0 0 [] 4 v w (by omega) (by omega) (Rd.none_ w) h4 h5)
 have hm6:m≤600000:=by omega
 have i0:IntKind.i64.wrap ((n:Int) * 6)=(m:Int):=by rw [IntKind.wrap_i64];omega
 have HM:=hide hm
 clear hl hok hm
 go_enter Tryz.func113,Tryz.ntmps113
 go_wp2_with (refine mk (n:=0) (k:=m) elU8 (Below.refl w.heap.size _) (Nat.le_refl _) (Nat.le_refl _) rfl (.const (.int .i64 0)) (.tmp 8) rfl .i64 .i64 _ _ rfl rfl rfl rfl (by omega) (by omega) (by simp [maxLen];omega) ?_;intro w1 ho1 hb1)
 go_loopw [3,12] (fun o i wr=>∃ (q:Nat) (A':Option Addr) (c':Nat),q≤n∧i=.int .i64 (q:Nat)∧o=.slice A' (q * 6) c'∧Hid (Ow wr w.heap.size 5 A' (q * 6) c' ((eTT (ts.take q)).map (Value.int .u8)))∧Hid (Below w.heap.size w wr)) (fun _ i _=>n - (intOf i).toNat)
 case atStart=>exact ⟨0,_,_,by omega,rfl,by rfl,hide ho1,hide hb1⟩
 case round =>
  clear ho1 hb1
  obtain ⟨q,A',c',hq,rfl,rfl,ho,hw⟩:=hrel
  by_cases hlt:q<n
  ·obtain ⟨ad,⟨o,d,x⟩,rfl,ht,h0,h1,h2⟩:=(hr.below hw.out).tt hlt
   obtain ⟨z0,z1,z2,z3⟩:=HO.out _ (List.mem_of_getElem? ht)
   dsimp only at h0 h1 h2 z0 z1 z2 z3
   have hu:=u64_bd o
   have hcv:∀ w:World,(convert 21 101 (.int .i32 o)).run Tryz.prog w=.ok (.int .u64 (u64 o)) w:=fun w=>by simp [go_sem,u64,IntKind.wrap_u64]
   have hs:=hide hw.out.size
   have hq6:q * 6+6≤600000:=by omega
   obtain ⟨f,hf⟩:∃ f:Int,f=if d then 1 else 0:=⟨_,rfl⟩
   have F:=hide (fun w=>encodeFlag d w)
   rw [← hf] at F
   have hst:=hide (show eTT (ts.take (q+1))=eTT (ts.take q)++be 4 (u64 o)++[f,x] by rw [hf,show eTT (ts.take (q+1))=eTT (ts.take q)++e6 (o,d,x) from fm_step ts q _ ht,List.append_assoc];rfl)
   have C:=hide (P.out (u64 o) (wr.alloc (.cells #[.int .i32 o,.bool d,.int .u8 x] 156)) hu.1 hu.2)
   have bx:=hide (Bx.new wr [.int .i32 o,.bool d,.int .u8 x] 156)
   have ho2:=hide (ho.out.alloc (.cells #[.int .i32 o,.bool d,.int .u8 x] 156))
   have hw2:=hide (bl_alloc hw.out (.cells #[.int .i32 o,.bool d,.int .u8 x] 156))
   have hdj:=hide (show oB A'≠some wr.heap.size from fun h=>by have:=(ho.out.blk h).2;omega)
   clear hf ht hu ho hw
   go_wp2_with fail
   refine C.out.mono ?_
   rintro e w1 ⟨A2,c2,rfl,o2,h2'⟩
   rw [show (4:Int).toNat=4 from rfl,Nat.zero_add] at o2 ⊢
   rw [List.nil_append] at o2
   replace bx:=hide (bx.out.below h2')
   have ho3:=hide (ho2.out.below h2')
   have hw3:=hide (bel_next hw2.out h2')
   have hr2:=hide o2.rd
   have hn2:=hide o2.nilcap
   have h1c:=hide (oneCells .u8 (be 4 (u64 o)))
   clear o2 h2' ho2 hw2 C h0 h1 h2
   go_upto_region 6 with (at_builtin;refine apA elU8 ho3.out hw3.out (Nat.le_refl _) hr2.out (.tmp 16) (.tmp 20) rfl rfl rfl rfl hn2.out h1c.out (by simp [maxLen];omega) (by omega) ?_;intro A3 c3 w3 ho4 hb4 hg4;replace ho4:=hide ho4;replace hb4:=hide hb4)
   replace bx:=hide (hg4.bx bx.out hdj.out)
   clear ho3 hw3 hr2 hn2 h1c hdj hg4
   rw [← List.map_append] at ho4
   have hk:=hide hb4.out.size
   have b1:=bx.out.2.1 1 _ rfl
   have b2:=bx.out.2.1 2 _ rfl
   have hoL:=hide (ho4.out.alloc (.cells #[.int .u8 f,.int .u8 x] 5))
   have hwL:=hide (bl_alloc hb4.out (.cells #[.int .u8 f,.int .u8 x] 5))
   have rl:=hide (show Rd (w3.alloc (.cells #[.int .u8 f,.int .u8 x] 5)) (some ⟨w3.heap.size,0,none⟩) 2 (([f,x]:List Int).map (Value.int .u8)) from Rd.lit w3 5 [.int .u8 f,.int .u8 x])
   have m1:=hide (oneCells .u8 [f,x])
   have x1:=hide (show q * 6+4+2≤maxLen by simp [maxLen];omega)
   have x2:=hide (show (q * 6+4+2) * 1≤140737488355328 by omega)
   go_region_law (first
    | (refine step_apA elU8 hoL.out hwL.out (Nat.le_refl _) rl.out (.tmp 22) (.tmp 28) rfl rfl rfl rfl (fun h=>by cases h) m1.out x1.out x2.out ?_;intro A5 c5 w5 ho5 hb5 _;replace ho5:=hide ho5;replace hb5:=hide hb5)
    | (refine step_apA elU8 hoL.out.drew (bl_drew hwL.out) (Nat.le_refl _) rl.out.drew (.tmp 22) (.tmp 28) rfl rfl rfl rfl (fun h=>by cases h) m1.out x1.out x2.out ?_;intro A5 c5 w5 ho5 hb5 _;replace ho5:=hide ho5;replace hb5:=hide hb5)
    | (go_simp;go_at_call 154;refine (F.out _).mono ?_;rintro e w10 ⟨rfl,rfl⟩))
   all_goals
    have ho6:=hide (show Ow w5 w.heap.size 5 A5 ((q+1) * 6) c5 ((eTT (ts.take (q+1))).map (Value.int .u8)) by rw [hst.out,List.map_append,show (q+1) * 6=q * 6+4+2 by omega];exact ho5.out)
    rw [show q * 6+4+2=(q+1) * 6 by omega]
    clear ho5
    go_wp2_with fail
    go_roundw
    case rel=>exact ⟨q+1,A5,c5,by omega,by go_num,rfl,ho6,hb5⟩
    case measure=>simp [intOf];omega
  ·obtain rfl:q=n:=by omega
   go_wp2
   go_ret
   have:=ho.out
   rw [List.take_of_length_le (by rw [HL.out];omega)] at this
   rw [HM.out]
   exact ⟨_,_,rfl,this,hw.out⟩
theorem Check (A:Option Addr) (n c:Nat) (ts:List TT) (m:Int) (w:World) (hn:n≤100000) (hA:A=none→n=0∧c=0) (hr:Rk 3 w A n (tcs ts)) (hok:∀ t ∈ ts,ttOk t) (b0:-9223372036854775808≤m) (b1:m<9223372036854775808) :
 Calls Tryz.prog 174 #[.slice A n c,.int .i64 m] w fun e w'=>e=.returned (.int .i64 (chk ts m))∧Below w.heap.size w w':=by
 have hl:ts.length=n:=by have:=hr.len;rw [tcs_len] at this;omega
 have HL:=hide hl
 have HO:=hide hok
 clear hok b0 b1
 obtain ⟨d,hd⟩:∃ d,d=chk ts m:=⟨_,rfl⟩
 rw [← hd]
 have HD:=hide hd
 clear hd hl
 go_enter Tryz.func174,Tryz.ntmps174
 go_wp2
 go_loopw [11] (fun i wr=>∃ k:Nat,k≤n∧i=.int .i64 (k:Nat)∧Hid ((ts.take k).any (fun t=>decide (t.1=-2147483648))=false)∧Hid (Below w.heap.size w wr)) (fun i _=>n - (intOf i).toNat)
 case atStart=>exact ⟨0,by omega,rfl,hide rfl,hide (bl_refl _)⟩
 case round =>
  obtain ⟨k,hk,rfl,ha,hw⟩:=hrel
  by_cases hlt:k<n
  ·obtain ⟨ad,t,rfl,ht,h0,h1,h2⟩:=(hr.below hw.out).tt hlt
   have hst:=any_step (fun t:TT=>decide (t.1=-2147483648)) ht
   have hw2:=hide (bl_alloc hw.out (.cells #[.int .i32 t.1,.bool t.2.1,.int .u8 t.2.2] 156))
   by_cases hm:t.1=-2147483648
   ·have hm':(t.1 == -2147483648)=true:=by simpa using hm
    have hne:d=9:=by rw [HD.out];unfold chk;rw [if_pos (any_at _ ht (decide_eq_true hm))]
    subst hne
    clear hst hm ht hw
    go_wp2
    go_ret
    exact ⟨rfl,hw2.out⟩
   ·have hm':(t.1 == -2147483648)=false:=by simpa using hm
    have hs:=hide (show (ts.take (k+1)).any (fun t=>decide (t.1=-2147483648))=false by rw [hst,ha.out];simpa using hm)
    clear hst hm ht hw
    go_wp2
    go_roundw
    case rel=>exact ⟨k+1,by omega,by go_num,hs,hw2⟩
    case measure=>simp [intOf];omega
  ·obtain rfl:k=n:=by omega
   have hAA:=hide (show ts.any (fun t=>decide (t.1=-2147483648))=false by have:=ha.out;rwa [List.take_of_length_le (by rw [HL.out];omega)] at this)
   clear ha
   go_wp2
   go_loopw [21] (fun i w2=>∃ q:Nat,q≤k∧i=.int .i64 (q:Nat)∧Hid ((ts.take q).any (fun t=>decide (m≤t.2.2))=false)∧Hid (Below w.heap.size w w2)) (fun i _=>k - (intOf i).toNat)
   case atStart=>exact ⟨0,by omega,rfl,hide rfl,hw⟩
   case round =>
    clear hw
    obtain ⟨q,hq,rfl,ha,hw⟩:=hrel
    by_cases hlt:q<k
    ·obtain ⟨ad,t,rfl,ht,h0,h1,h2⟩:=(hr.below hw.out).tt hlt
     have hst:=any_step (fun t:TT=>decide (m≤t.2.2)) ht
     have hw2:=hide (bl_alloc hw.out (.cells #[.int .i32 t.1,.bool t.2.1,.int .u8 t.2.2] 156))
     obtain ⟨_,_,z0,z1⟩:=HO.out t (List.mem_of_getElem? ht)
     have zw:wrap64 t.2.2=t.2.2:=by unfold wrap64;omega
     by_cases hm:m≤t.2.2
     ·have hne:d=8:=by rw [HD.out];unfold chk;rw [if_neg (by rw [hAA.out];decide),if_pos (any_at _ ht (decide_eq_true hm))]
      subst hne
      clear hst ht hw
      go_wp2
      go_ret
      exact ⟨rfl,hw2.out⟩
     ·have hs:=hide (show (ts.take (q+1)).any (fun t=>decide (m≤t.2.2))=false by rw [hst,ha.out];simpa using hm)
      clear hst ht hw
      go_wp2
      go_roundw
      case rel=>exact ⟨q+1,by omega,by go_num,hs,hw2⟩
      case measure=>simp [intOf];omega
    ·obtain rfl:q=k:=by omega
     have hB:=(show ts.any (fun t=>decide (m≤t.2.2))=false by have:=ha.out;rwa [List.take_of_length_le (by rw [HL.out];omega)] at this)
     have hne:d=0:=by rw [HD.out];unfold chk;rw [if_neg (by rw [hAA.out];decide),if_neg (by rw [hB];decide)]
     subst hne
     clear hB ha
     go_wp2
     go_ret
     exact ⟨rfl,hw.out⟩
end tt_
namespace ds_
theorem isAllowed (x:Int) (w:World) (h0:0≤x) (h1:x<256):Calls Tryz.prog 235 #[.int .u8 x] w fun e w'=>e=.returned (.bool (dsG x))∧w=w':=by
 rcases (show x=0∨x=43∨x=45∨((x == 0)=false∧(x == 43)=false∧(x == 45)=false∧x≠0∧x≠43∧x≠45) by by_cases a:x=43 <;> by_cases b:x=45 <;> by_cases c:x=0 <;> simp [a,b,c]) with rfl | rfl | rfl | ⟨a,b,c,d,f,g⟩
 ·go_enter Tryz.func235,Tryz.ntmps235
  go_wp2
  go_ret
  exact ⟨rfl,rfl⟩
 ·go_enter Tryz.func235,Tryz.ntmps235
  go_wp2
  go_ret
  exact ⟨rfl,rfl⟩
 ·go_enter Tryz.func235,Tryz.ntmps235
  go_wp2
  go_ret
  exact ⟨rfl,rfl⟩
 ·go_enter Tryz.func235,Tryz.ntmps235
  go_wp2
  all_goals go_ret
  all_goals
   refine ⟨retb ?_,rfl⟩
   unfold dsG dsA
   rw [Bool.eq_iff_iff]
   simp_all
   try omega
theorem Bad (A:Option Addr) (n c:Nat) (xs:List Int) (w:World) (hr:Rd w A n (bys xs)) (hb:IsB xs) (hn:n≤1000000) (hnc:n≤c) (hc:c≤9223372036854775807) :
 Calls Tryz.prog 210 #[.slice A n c] w fun e w'=>e=.returned (.int .i64 (badL xs))∧Below w.heap.size w w':=by
 have hlen:xs.length=n:=by have:=hr.len;simpa using this
 obtain ⟨q,h1,h2,h3,h4⟩:=twi_facts dsG xs
 have hbad:=hide (show badL xs=if q<n then (q:Int) else if xs.getLast?=some 0 then -1 else n by unfold badL;rw [h1,hlen])
 generalize badL xs=z at *
 have Al:=hide (fun x w h0 h1=>isAllowed x w h0 h1)
 have HS:=hide (fun B w (h:Rd w A n (bys xs)) hy=>by_.HasSuffix0 A B n c 1 xs w h hb hn hnc hc hy)
 have hR:=hide hr
 have h3':=hide h3
 have h4':=hide h4
 have hb':=hide hb
 have hl':=hide hlen
 rw [hlen] at h2
 clear h1 h3 h4 hr hb hlen
 go_enter Tryz.func210,Tryz.ntmps210
 go_wp2
 go_loop [7] (fun iv=>∃ i:Nat,iv=.int .i64 i∧i≤q) (fun iv=>n+1 - (intOf iv).toNat)
 case atStart=>exact ⟨0,rfl,Nat.zero_le _⟩
 case round =>
  obtain ⟨i,rfl,hi⟩:=hrel
  by_cases hlt:i<n
  ·have dl:decide ((i:Int)<(n:Int))=true:=by simpa using hlt
   have dl2:(i:Int)<(n:Int):=by omega
   obtain ⟨ad,x,rfl,hx,hcl⟩:=rd_at hR.out hlt
   obtain ⟨x0,x1⟩:=hb'.out x (List.mem_of_getElem? hx)
   have Ax:=hide (fun w=>Al.out x w x0 x1)
   by_cases hiq:i<q
   ·have hg:=h3'.out i x hiq hx
    rw [hg] at Ax
    clear hx hg
    go_wp2_with fail
    refine (Ax.out _).mono ?_
    rintro e w' ⟨rfl,rfl⟩
    go_wp2_with fail
    go_round
    case rel=>exact ⟨i+1,by go_num,by omega⟩
    case measure=>simp [intOf];omega
   ·obtain rfl:i=q:=by omega
    have hg:=h4'.out x hx
    rw [hg] at Ax
    clear hx hg
    go_wp2_with fail
    refine (Ax.out _).mono ?_
    rintro e w' ⟨rfl,rfl⟩
    go_wp2_with fail
    go_ret
    exact ⟨reti (by rw [hbad.out,if_pos hlt]),bl_refl _⟩
  ·obtain rfl:i=n:=by omega
   obtain rfl:i=q:=by omega
   have dl:decide ((i:Int)<(i:Int))=false:=by simp
   by_cases hla:xs.getLast?=some 0
   ·rw [decide_eq_true hla] at HS
    replace hla:=hide hla
    go_wp2_with fail
    refine (HS.out _ _ (hR.out.alloc _) (Ow.lit _ _ [.int .u8 0] (by simp [maxLen])).rd).mono ?_
    rintro e w' ⟨rfl,rfl⟩
    go_wp2_with fail
    go_ret
    exact ⟨reti (by rw [hbad.out,if_neg (by omega),if_pos hla.out]),bl_new _ _⟩
   ·rw [decide_eq_false hla] at HS
    replace hla:=hide hla
    go_wp2_with fail
    refine (HS.out _ _ (hR.out.alloc _) (Ow.lit _ _ [.int .u8 0] (by simp [maxLen])).rd).mono ?_
    rintro e w' ⟨rfl,rfl⟩
    go_wp2_with fail
    go_ret
    exact ⟨reti (by rw [hbad.out,if_neg (by omega),if_neg hla.out]),bl_new _ _⟩
theorem Valid (A:Option Addr) (n c:Nat) (xs:List Int) (w:World) (hr:Rd w A n (bys xs)) (hb:IsB xs) (hn:n≤1000000) (hnc:n≤c) (hc:c≤9223372036854775807) :
 Calls Tryz.prog 176 #[.slice A n c] w fun e w'=>e=.returned (.bool (decide (badL xs=-1)))∧Below w.heap.size w w':=by
 have B:=hide (Bad A n c xs w hr hb hn hnc hc)
 have hd:decide (badL xs=-1)=decide (badL xs<0):=by
  have:-1≤badL xs:=by unfold badL;split <;> (try split) <;> omega
  rw [decide_eq_decide]
  omega
 rw [hd]
 generalize badL xs=z at *
 obtain ⟨p,hp⟩:∃ p,decide (z<0)=p:=⟨_,rfl⟩
 rw [hp]
 clear hr hb hd
 go_enter Tryz.func176,Tryz.ntmps176
 go_wp2_with fail
 refine B.out.mono ?_
 rintro e w1 ⟨rfl,h1⟩
 replace h1:=hide h1
 go_wp2_with fail
 go_ret
 exact ⟨retb rfl,h1.out⟩
theorem Name (A:Option Addr) (n c:Nat) (xs:List Int) (k:Nat) (w:World) (hr:Rd w A n (bys xs)) (hb:IsB xs) (hn:n≤1000000) (hnc:n≤c) (hc:c≤9223372036854775807) (hv:badL xs=-1) (hk:k<n) :
 Calls Tryz.prog 189 #[.slice A n c,.int .i64 k] w fun e w'=>e=.returned (.tuple #[.string (bS (nameL xs k)),.bool true])∧Below w.heap.size w w':=by
 have hlen:xs.length=n:=by have:=hr.len;simpa using this
 obtain ⟨q,h1,h2,h3,h4⟩:=twi_facts nz (xs.drop k)
 have hna:nameL xs k=(xs.drop k).take q:=by
  unfold nameL
  rw [← h1]
  exact (List.take_left' (l₂:=(xs.drop k).dropWhile nz) rfl).symm.trans (by rw [List.takeWhile_append_dropWhile])
 have hla:=((badL_iff xs).1 hv).2
 have hqn:q<n - k:=by
  rcases Nat.lt_or_ge q (n - k) with h | h
  ·exact h
  ·rw [List.getLast?_eq_getElem?,hlen] at hla
   have:=h3 (n - 1 - k) 0 (by omega) (by rw [List.getElem?_drop,show k+(n - 1 - k)=n - 1 by omega];exact hla)
   simp [nz] at this
 have hq:(xs.drop k)[q]?=some 0:=by
  have e:(xs.drop k)[q]?=some ((xs.drop k)[q]'(by simp;omega)):=List.getElem?_eq_getElem _
  have:=h4 _ e
  rw [e]
  simpa [nz] using this
 have hbk:IsB (xs.drop k):=fun x hx=>hb x (List.mem_of_mem_drop hx)
 have hkk:∀ j x,j<q→(xs.drop k)[j]?=some x→¬ x=0:=fun j x hj hx=>by have:=h3 j x hj hx;simpa [nz] using this
 obtain ⟨ad,_,rfl,_,_⟩:=rd_at hr hk
 have hcut:=hr.cut (k:=k) (cap:=c) (by omega) hnc
 rw [if_neg (by omega),← List.map_drop] at hcut
 have CT:=hide (fun B W (h:Rd W (some (ad.add k)) (n - k) (bys (xs.drop k))) hy=>by_.Cut0 (ad.add k) B (n - k) (c - k) 1 q (xs.drop k) W h hbk (by omega) (by omega) (by omega) hkk hq hy)
 have CV:=hide (fun W c' (h:Rd W (some (ad.add k)) (n - k) (bys (xs.drop k)))=>convS (c:=c') (show Rd W (some (ad.add k)) q (bys (nameL xs k)) by rw [hna];have:=h.take (k:=q) (by omega);rwa [← List.map_take] at this) (fun x hx=>hbk x (by rw [hna] at hx;exact List.mem_of_mem_take hx)))
 generalize nameL xs k=nm at *
 generalize bS nm=s at *
 replace hcut:=hide hcut
 have d1:decide ((k:Int)<0)=false:=by simp
 have d2:decide ((n:Int)≤(k:Int))=false:=by simp;omega
 have d3:(k:Int)≤(n:Int):=by omega
 clear h1 h2 h3 h4 hr hb hlen hna hla hq hbk hkk hv
 go_enter Tryz.func189,Tryz.ntmps189
 go_wp2_with fail
 refine (CT.out _ _ (hcut.out.alloc _) (Ow.lit _ _ [.int .u8 0] (by simp [maxLen])).rd).mono ?_
 rintro e w1 ⟨⟨A2,n2,c2,rfl⟩,hb1⟩
 have hcv:=CV.out w1 (c - k) ((hcut.out.alloc _).below hb1)
 replace hb1:=hide (bel_next (bl_new _ _) hb1)
 go_wp2_with fail
 go_ret2
 exact ⟨rfl,hb1.out⟩
end ds_
def spB (ts:List LP) (n:Nat):Bool:=(List.range n).all fun j=>decide (j=0) || decide (la ts (j - 1)+2419199≤la ts j)
def gsB (ts:List LP) (n:Nat):Bool:=(List.range n).all fun j=>decide (j=0) || decide (lr ts j - lr ts (j - 1)=1) || decide (lr ts j - lr ts (j - 1)=-1)
theorem spB_one (ts:List LP):spB ts 1=true:=by simp [spB]
theorem gsB_one (ts:List LP):gsB ts 1=true:=by simp [gsB]
theorem spB_step (ts:List LP) (n:Nat) (h:0<n):spB ts (n+1)=(spB ts n && decide (la ts (n - 1)+2419199≤la ts n)):=by
 unfold spB
 rw [List.range_succ,List.all_append]
 simp [show ¬ n=0 by omega]
theorem gsB_step (ts:List LP) (n:Nat) (h:0<n):gsB ts (n+1)=(gsB ts n && (decide (lr ts n - lr ts (n - 1)=1) || decide (lr ts n - lr ts (n - 1)=-1))):=by
 unfold gsB
 rw [List.range_succ,List.all_append]
 simp [show ¬ n=0 by omega]
theorem spB_no {ts:List LP} {i n:Nat} (hi:0<i) (hn:i<n) (h:¬ la ts (i - 1)+2419199≤la ts i):spB ts n=false:=by
 rw [← Bool.not_eq_true]
 intro e
 have:=List.all_eq_true.1 e i (List.mem_range.2 hn)
 simp [show ¬ i=0 by omega] at this
 exact h this
theorem gsB_no {ts:List LP} {i n:Nat} (hi:0<i) (hn:i<n) (h1:¬ lr ts i - lr ts (i - 1)=1) (h2:¬ lr ts i - lr ts (i - 1)=-1):gsB ts n=false:=by
 rw [← Bool.not_eq_true]
 intro e
 have:=List.all_eq_true.1 e i (List.mem_range.2 hn)
 simp [show ¬ i=0 by omega] at this
 rcases this with h | h
 ·exact h1 h
 ·exact h2 h
def gsN (ts:List LP) (four:Bool):Nat:=if four && exL ts then ts.length - 1 else ts.length
def stB (ts:List LP) (four:Bool):Bool:=four || decide (lr ts 0=1) || decide (lr ts 0=-1)
theorem vL_parts {ts:List LP} (h:0<ts.length) (four:Bool):vL ts four=(decide (0≤la ts 0) && spB ts ts.length && stB ts four && gsB ts (gsN ts four)):=by
 rw [Bool.eq_iff_iff]
 constructor
 ·intro hv
  have h0:=vL_at hv h
  simp only [okL,Bool.and_eq_true] at h0
  rw [Bool.and_eq_true,Bool.and_eq_true,Bool.and_eq_true]
  refine ⟨⟨⟨h0.1,?_⟩,h0.2⟩,?_⟩
  ·refine List.all_eq_true.2 fun j hj=>?_
   have hj':=List.mem_range.1 hj
   cases j with
   | zero=>rfl
   | succ j =>
     have:=vL_at hv hj'
     simp only [okL,Bool.and_eq_true] at this
     simp [of_decide_eq_true this.1]
  ·refine List.all_eq_true.2 fun j hj=>?_
   have hj':=List.mem_range.1 hj
   cases j with
   | zero=>rfl
   | succ j =>
     have hN:gsN ts four≤ts.length:=by unfold gsN;split <;> omega
     have:=vL_at hv (show j+1<ts.length by omega)
     simp only [okL,Bool.and_eq_true] at this
     have h2:=this.2
     simp at h2 ⊢
     rcases h2 with h2 | ⟨⟨h2,h3⟩,h4⟩
     ·exact h2
     ·exfalso
      have hx:exL ts=true:=by
       unfold exL
       simp
       refine ⟨by omega,?_⟩
       rw [show ts.length - 1=j+1 by omega,show ts.length - 2=j by omega]
       omega
      unfold gsN at hj'
      rw [h3,hx] at hj'
      simp at hj'
      omega
 ·intro hv
  rw [Bool.and_eq_true,Bool.and_eq_true,Bool.and_eq_true] at hv
  obtain ⟨⟨⟨a,b⟩,c⟩,d⟩:=hv
  refine vL_of fun i hi=>?_
  cases i with
  | zero=>simp only [okL,Bool.and_eq_true];exact ⟨a,c⟩
  | succ j =>
    have b1:=List.all_eq_true.1 b (j+1) (List.mem_range.2 hi)
    simp at b1
    simp only [okL,Bool.and_eq_true]
    refine ⟨decide_eq_true b1,?_⟩
    by_cases hN:j+1<gsN ts four
    ·have d1:=List.all_eq_true.1 d (j+1) (List.mem_range.2 hN)
     simp at d1 ⊢
     exact .inl d1
    ·unfold gsN at hN
     by_cases hf:(four && exL ts)=true
     ·rw [if_pos hf] at hN
      rw [Bool.and_eq_true] at hf
      have hx:=hf.2
      unfold exL at hx
      simp at hx
      have e:lr ts (j+1)=lr ts j:=by
       have:=hx.2
       rwa [show ts.length - 1=j+1 by omega,show ts.length - 2=j by omega] at this
      simp
      exact .inr ⟨⟨by omega,hf.1⟩,by omega⟩
     ·rw [if_neg hf] at hN
      omega
theorem cr_cut {ts:List LP} {t:Int} {h:Nat} (hn:h≤ts.length) (a:∀ i,i<h→la ts i≤t) (b:∀ i,h≤i→i<ts.length→t<la ts i):cr ts t=if h=0 then 0 else lr ts (h - 1):=by
 have:=crN_later (ts:=ts) (t:=t) (i:=h) (ts.length - h) (fun j h1 h2=>b j h1 (by omega))
 unfold cr
 rw [show h+(ts.length - h)=ts.length by omega] at this
 rw [this]
 cases h with
 | zero=>rfl
 | succ j =>
   rw [crN,if_pos (a j (by omega)),if_neg (by omega)]
   rfl
theorem la_mono {ts:List LP} {four:Bool} (h:vL ts four=true) {i j:Nat} (hij:i≤j) (hj:j<ts.length):la ts i≤la ts j:=by
 rcases Nat.lt_or_eq_of_le hij with h1 | rfl
 ·exact Int.le_of_lt (la_lt' h h1 hj)
 ·exact Int.le_refl _
theorem la_some {ts:List LP} {i:Nat} {t:LP} (h:ts[i]?=some t):la ts i=t.1∧lr ts i=t.2:=by unfold la lr;rw [h];exact ⟨rfl,rfl⟩
theorem lcs_put (t:LP):∀ (ts:List LP) (i:Nat),((lcs ts).set (i * 2) (.int .i64 t.1)).set (i * 2+1) (.int .i32 t.2)=lcs (ts.set i t)
 | [],i=>by simp [lcs]
 | a :: l,0=>by simp [lcs,lc]
 | a :: l,i+1=>by
   have ih:=lcs_put t l i
   unfold lcs at ih ⊢
   rw [List.set_cons_succ,List.flatMap_cons,List.flatMap_cons,← ih,show (i+1) * 2=i * 2+2 by omega]
   rfl
def rowLP (k:Nat) (l:List Int) (m q:Nat):List LP:=dLP k l q++List.replicate (m - q) (0,0)
theorem rowLP_at (k:Nat) (l:List Int) {m q:Nat} (h:q<m):(rowLP k l m q)[q]?=some (0,0):=by
 unfold rowLP
 rw [List.getElem?_append_right (by rw [dLP_len];omega),dLP_len,Nat.sub_self,List.getElem?_replicate,if_pos (by omega)]
theorem rowLP_set (k:Nat) (l:List Int) {m q:Nat} (h:q<m):(rowLP k l m q).set q (dL k l q)=rowLP k l m (q+1):=by
 unfold rowLP
 obtain ⟨d,hd⟩:∃ d,m - q=d+1:=⟨m - q - 1,by omega⟩
 rw [hd,show m - (q+1)=d by omega,List.set_append_right _ _ (by rw [dLP_len];omega),dLP_len,Nat.sub_self,List.replicate_succ,List.set_cons_zero,dLP_step,List.append_assoc]
 rfl
end Go.Proofs.YtpapfpcehlhgeaaGreatDoor
