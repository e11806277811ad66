/-
  Texts of mine in one file: Ted, Tee, Te. Their conditions stand in the theorems.
-/
import Derived.Test.YtpapfpcehlhgeaaGreatDoorE14
import Derived.WalkMore
import Derived.Test.YtpapfpcehlhgeaaGreatDoorE02
namespace Go.Proofs.YtpapfpcehlhgeaaGreatDoor
set_option linter.unusedVariables false
set_option linter.unusedSimpArgs false
set_option maxRecDepth 100000
set_option maxHeartbeats 16000000
open Go.ChangeShapes Go.WideShapes Go.ChangeAt Go.RowKit
open Go.ChangeShapes Go.WideShapes Go.ChangeAt Go.RowKit Go.Shelf
attribute [local go_sem] Oper.semAt_some
namespace te_
theorem isDaylight_ (std:ByteArray) (so:Int) (dst:ByteArray) (dof:Int) (st en:RD) (t:Int) (b:Bool) (w:World) (hT:Tb w) (h0:-9223372036854775808≤t) (h1:t<9223372036854775808) (hs:rdOk st) (he:rdOk en) (so0:offOk so) (do0:offOk dof) (hbn:b=true ↔ onS st en so dof t) :
 Calls Tryz.prog 220 #[.agg (crule std so true dst dof st en),.int .i64 t] w fun e w'=>e=.returned (.bool b)∧Below w.heap.size w w':=by
 obtain ⟨Y,M,D,hd8,t0,t1,y0,y1⟩:=year64 t h0 h1
 have I1:=hide (fun w=>instant_ t w h0 h1)
 have Yr:=hide (fun w hT=>dt_.YearOf t Y M D w hT h0 h1 hd8)
 have Cm:=hide (fun x w=>Compare_v x t w)
 have St:=hide (fun gF gL gR n₀ n w hT hn0 hF hL hR=>stops_ std so dst dof st en (Y - 2) (Y+2) gF gL gR n₀ n w hT hn0 hF hL hR hs he so0 do0 (by omega) (by omega) (by omega))
 have f1:IntKind.i64.wrap (Y - 2)=Y - 2:=by rw [IntKind.wrap_i64];omega
 have f2:IntKind.i64.wrap (Y+2)=Y+2:=by rw [IntKind.wrap_i64];omega
 have fin:=hide (fun hi y z pre x (h:Mg st en so dof (Y - 2) hi (pre++[x]) y z) hp hx=>mg_day hs he so0 do0 t0 h hp hx)
 have non:=hide (fun y z pre (h:Mg st en so dof (Y - 2) (Y+2) pre y z) hd hp=>mg_day_end hs he so0 do0 t1 h hd hp)
 obtain ⟨n1,hn1⟩:∃ a,t / 86400=a:=⟨_,rfl⟩
 obtain ⟨n2,hn2⟩:∃ a,t % 86400=a:=⟨_,rfl⟩
 have vt:vin t=.agg #[.int .i64 n1,.int .i64 n2]:=by unfold vin cin;rw [hn1,hn2]
 simp only [vt] at I1 Cm
 have G:=gr_rule std so true dst dof st en
 obtain ⟨cs,hcs⟩:∃ cs,crule std so true dst dof st en=cs:=⟨_,rfl⟩
 simp only [hcs] at St G ⊢
 have Mk:=hide (fun f l w=>changes_ cs G.1 f l w)
 clear hcs hd8 hn1 hn2 t0 t1 hs he so0 do0 vt y0 y1
 replace hbn:=hide hbn
 have hA:=hide (Ro.new w cs 83)
 have hb:=hide (bl_new w (.cells cs 83))
 have HT:=hide (hT.below hb.out)
 have hT0:=hide hT.1
 clear hT
 refine (callsIn_wide (n:=6)).1 ?_
 refine callsIn_of_wp_marks Tryz.func220 rfl trivial ?_ rfl
 simp only [Tryz.ntmps220,List.size_toArray,List.length_cons,List.length_nil,Nat.reduceAdd,Nat.reduceSub,Array.replicate_succ,Array.replicate_zero,List.push_toArray,List.append_toArray,List.nil_append,List.cons_append]
 refine wpIn_wide.2 ?_
 go_upto_region 1 with fail
 generalize w.alloc (.cells cs 83)=u at *
 go_step3
 go_wp2_with fail
 refine (I1.out _).mono ?_
 rintro e w1 ⟨rfl,h5⟩
 replace hA:=hide (hA.out.below h5)
 replace HT:=hide (HT.out.below h5)
 replace hb:=hide (bel_next hb.out h5)
 clear h5
 go_wp2_with fail
 refine (Yr.out _ HT.out).mono ?_
 rintro e w2 ⟨rfl,h5⟩
 replace hA:=hide (hA.out.below h5)
 replace HT:=hide (HT.out.below h5)
 replace hb:=hide (bel_next hb.out h5)
 clear h5
 go_wp2_with fail
 go_step3
 go_upto_region 2 with fail
 have hN:=hide (show Ro ((w2.alloc (.cells #[.int .i64 n1,.int .i64 n2] 151)).alloc (.cells #[.bool false] 4)) w2.heap.size #[.int .i64 n1,.int .i64 n2] 151 from (Ro.new w2 #[.int .i64 n1,.int .i64 n2] 151).alloc _)
 have hD:=hide (show Ro ((w2.alloc (.cells #[.int .i64 n1,.int .i64 n2] 151)).alloc (.cells #[.bool false] 4)) (w2.heap.size+1) #[.bool false] 4 by have:=Ro.new (w2.alloc (.cells #[.int .i64 n1,.int .i64 n2] 151)) #[.bool false] 4;simpa using this)
 replace hA:=hide ((hA.out.alloc (.cells #[.int .i64 n1,.int .i64 n2] 151)).alloc (.cells #[.bool false] 4))
 replace HT:=hide (HT.out.below (bl_alloc (bl_new w2 (.cells #[.int .i64 n1,.int .i64 n2] 151)) (.cells #[.bool false] 4)))
 have sN:=hb.out.size
 replace hb:=hide (bl_alloc (bl_alloc hb.out (.cells #[.int .i64 n1,.int .i64 n2] 151)) (.cells #[.bool false] 4))
 generalize w2.heap.size=gN at *
 generalize (w2.alloc (.cells #[.int .i64 n1,.int .i64 n2] 151)).alloc (.cells #[.bool false] 4)=w3 at *
 go_wp2_with (refine load_row_g (by rfl) 83 _ rfl _ rfl _ _ _ hA.out Tryz.underlying83 rfl G.1 ?_)
 refine (Mk.out _ _ _).mono ?_
 rintro e w4 ⟨rfl,hR,hF,hL,h5⟩
 have sD:=hD.out.lt
 replace hN:=hide (hN.out.below h5)
 replace hD:=hide (hD.out.below h5)
 replace HT:=hide (HT.out.below h5)
 replace hb:=hide (bel_next hb.out h5)
 clear h5 hA
 generalize w3.heap.size=gR at *
 have sL:=hL.lt
 have sB:=hb.out.size
 go_wp2_with fail
 unfold vin cin at Cm
 refine (wpIn_wide (n:=6)).1 ?_
 refine wpIn_rangeFunc_ownH rfl (by omega) (gf:=268) (lb:=#[.pointer (some ⟨gR+1,0,none⟩),.pointer (some ⟨gR+1+1,0,none⟩),.pointer (some ⟨gR,0,none⟩)]) rfl trivial (enters_of Tryz.func268 (by kernel_rfl) rfl)
  (St.out (gR+1) (gR+1+1) gR w.heap.size 5 w4 HT.out hT0.out hF hL hR) kpp_t (kpp_b (by omega) (by omega) (by omega)) (Below.refl _ _) (fun _=>rfl)
  (fun pre W=>(Ro W gN #[.int .i64 n1,.int .i64 n2] 151∧Ro W (gN+1) #[.bool (lastSt pre)] 4∧(∀ c ∈ pre,c.1≤t)∧gR+1+1<W.heap.size)∧Below w.heap.size w W)
  (fun c pre W=>(c=.exit 0∧∃ p x,pre=p++[x]∧t<x.1∧(∀ c ∈ p,c.1≤t)∧Ro W (gN+1) #[.bool (lastSt p)] 4)∧Below w.heap.size w W)
  (fun s A B row hs hg hr=>⟨⟨ro_keep hs.1.1 hg (fun r e=>(hr r e).2),ro_keep hs.1.2.1 hg (fun r e=>(hr r e).2),hs.1.2.2.1,Nat.lt_of_lt_of_le hs.1.2.2.2 hg.size⟩,ownFrom_below (β:=Unit) (Nat.le_refl _) (by omega) () A B row hs.2 hg hr⟩)
  (fun c s A B row hs hg hr=>⟨by obtain ⟨⟨h1,p,x,h2,h3,h4,h5⟩,_⟩:=hs;exact ⟨h1,p,x,h2,h3,h4,ro_keep h5 hg (fun r e=>(hr r e).2)⟩,ownFrom_below (β:=Unit) (Nat.le_refl _) (by omega) () A B row hs.2 hg hr⟩)
  ⟨⟨hN.out,hD.out,by simp,sL⟩,hb.out⟩
  (fun x a' W=>∃ gA,gR+1+1<gA∧Ro W gA (cin x.1) 151∧a'={ tmps:=#[.agg cs,.int .i64 t,.pointer (some ⟨w.heap.size,0,none⟩),undef,.bool false,.pointer (some ⟨gN,0,none⟩),.int .i64 Y,.pointer (some ⟨gN+1,0,none⟩),.pointer (some ⟨gA,0,none⟩),.bool x.2,.int .i64 t,.agg #[.int .i64 n1,.int .i64 n2],.int .i64 t,.int .i64 Y,.agg cs,.int .i64 Y,.int .i64 (Y - 2),.int .i64 Y,.int .i64 (Y+2),.func (.func 268) #[] #[.pointer (some ⟨gR+1,0,none⟩),.pointer (some ⟨gR+1+1,0,none⟩),.pointer (some ⟨gR,0,none⟩)],vin x.1,.bool x.2,undef,undef,undef,undef,undef,undef],defers:=[] })
  (fun x a' _ A B row hs hg hr=>by obtain ⟨gA,h1,h2,h3⟩:=hs;exact ⟨gA,h1,ro_keep h2 hg (fun r e=>(hr r e).2),h3⟩)
  ?assign ?body ?done ?stop
 case assign =>
  rintro l pre x W K ⟨⟨hN1,hD1,hp,sW⟩,hB1⟩ hK
  have s1:=hB1.size
  have s2:=hD1.lt
  unfold encC vin cin
  gi_wp2
  exact hK _ _ ((KeepsOthers.alloc _ _).from _) (kpp_below (bl_new W _) s1 sW (by omega)) ⟨⟨hN1.alloc _,hD1.alloc _,hp,by simp;omega⟩,bl_alloc hB1 _⟩ ⟨W.heap.size,sW,Ro.new W _ _,rfl⟩
 case body =>
  rintro l pre x a' W hl ⟨r,hr⟩ ⟨⟨hN1,hD1,hp,sW⟩,hB1⟩ ⟨gA,hgA,hX,rfl⟩ hlt
  have h1':1≤6 - 1 - 1:=by decide
  have s1:=hB1.size
  obtain ⟨a0,_⟩:=ro_cf hX 0 (.int .i64 (x.1 / 86400)) rfl
  obtain ⟨a1,_⟩:=ro_cf hX 1 (.int .i64 (x.1 % 86400)) rfl
  obtain ⟨c0,_⟩:=ro_cf hN1 0 (.int .i64 n1) rfl
  obtain ⟨c1,_⟩:=ro_cf hN1 1 (.int .i64 n2) rfl
  have C:=Cm.out x.1
  by_cases hx:t<x.1
  ·rw [show cmp1 x.1 t=1 by unfold cmp1;rw [if_neg (by omega),if_pos hx]] at C
   gi_wp2_with (refine ⟨trivial,?_⟩;gi_at_call 246;refine (CallsIn.inRound l (callsIn_wide.2 (C _))).mono ?_;rintro e w6 ⟨rfl,h6⟩)
   exact ⟨(ko_below h6).from _,⟨rfl,pre,x,rfl,hx,hp,hD1.below h6⟩,bel_next hB1 h6⟩
  ·have hv:cmp1 x.1 t≤0:=by
    unfold cmp1
    by_cases h:x.1<t
    ·rw [if_pos h];omega
    ·rw [if_neg h,if_neg hx];omega
   generalize cmp1 x.1 t=v at *
   gi_wp2_with (refine ⟨trivial,?_⟩;gi_at_call 246;refine (CallsIn.inRound l (callsIn_wide.2 (C _))).mono ?_;rintro e w6 ⟨rfl,h6⟩;have d6:=(ro_cf (hD1.below h6) 0 (.bool (lastSt pre)) rfl).1;have z6:=(ro_cf (hD1.below h6) 0 (.bool (lastSt pre)) rfl).2)
   have s6:=h6.size
   refine ⟨((ko_below h6).trans (KeepsOthers.setCell _ _ _)).from _,kpp_t (kpp_below h6 s1 sW (by omega)) ⟨(Below.refl _ w6).setCell (p:=⟨gN+1,0,none⟩) (by simp only [];omega) _,Below.heap_setCell _ _ _ _ (by simp only [];omega),Below.heap_setCell _ _ _ _ (by simp only [];omega)⟩,
    ⟨ro_away1 (g':=gN+1) (hN1.below h6) (by omega),by rw [lastSt_snoc];exact ro_set1' (hD1.below h6),?_,?_⟩,bl_set1 (g:=gN+1) (bel_next hB1 h6) (by omega)⟩
   ·intro c hc
    rcases List.mem_append.1 hc with hc | hc
    ·exact hp c hc
    ·simp at hc;subst hc;omega
   ·have:=(bl_set1 (a:=.bool x.2) (g:=w6.heap.size) (bl_refl w6) (Nat.le_refl _)).size
    simp only [World.setCell] at *
    simp
    omega
 case done =>
  rintro D' xs W hD' ⟨ys,ye,hm,hd⟩ ⟨⟨hN1,hD1,hp,sW⟩,hB1⟩ hK
  exact (non.out _ _ _ hm hd hp).elim
 case stop =>
  rintro D' c pre W hD' ⟨ys,ye,hm⟩ ⟨⟨rfl,p,x,rfl,hx,hp,hD1⟩,hB1⟩ hK
  have hon:=fin.out _ _ _ _ _ hm hp hx
  obtain rfl:b=lastSt p:=by
   rw [Bool.eq_iff_iff,hbn.out,hon]
  refine wpIn_wide.2 ?_
  obtain ⟨d0,_⟩:=ro_cf hD1 0 (.bool (lastSt p)) rfl
  go_wp2
  refine ⟨by simp,.inl ⟨_,_,rfl,run_takeDeferred hK,?_⟩⟩
  exact ⟨_,results_tmp rfl _ _ _,rfl,hB1.trans (belowK_b (w:=w) (Nat.le_refl _) W D' _ _ (by have:=hb.out.size;omega) hK rfl rfl)⟩
end te_
open Go.ChangeShapes Go.WideShapes Go.ChangeAt Go.RowKit Go.Shelf
attribute [local go_sem] Oper.semAt_some
namespace te_
end te_
namespace te_
theorem At_no (std:ByteArray) (so:Int) (dst:ByteArray) (dof:Int) (st en:RD) (t:Int) (w:World) (hT:Tb w) (hz:std.size≤1000000∧dst.size≤1000000) (h0:-9223372036854775808≤t) (h1:t<9223372036854775808) :
 Calls Tryz.prog 190 #[.agg (crule std so false dst dof st en),.int .i64 t] w fun e w'=>e=.returned (vres false std so dst dof)∧Below w.heap.size w w':=by
 have R1:=hide (fun w=>result_ so false std w hz.1)
 clear h0 h1 hz
 have G:=gr_rule std so false dst dof st en
 obtain ⟨cs,hcs⟩:∃ cs,crule std so false dst dof st en=cs:=⟨_,rfl⟩
 have e0:cs[0]?=some (.string std):=by rw [← hcs];rfl
 have e1:cs[1]?=some (.int .i64 so):=by rw [← hcs];rfl
 have e2:cs[2]?=some (.bool false):=by rw [← hcs];rfl
 have e3:cs[3]?=some (.string dst):=by rw [← hcs];rfl
 have e4:cs[4]?=some (.int .i64 dof):=by rw [← hcs];rfl
 simp only [hcs] at G ⊢
 clear hcs
 have hA:=hide ((Ro.new w cs 83).alloc (.cells #[.bool false,.int .i64 0,.bool false,.string ⟨#[]⟩] 90))
 have h4:=hide (show Ro ((w.alloc (.cells cs 83)).alloc (.cells #[.bool false,.int .i64 0,.bool false,.string ⟨#[]⟩] 90)) (w.heap.size+1) #[.bool false,.int .i64 0,.bool false,.string ⟨#[]⟩] 90 by have:=Ro.new (w.alloc (.cells cs 83)) #[.bool false,.int .i64 0,.bool false,.string ⟨#[]⟩] 90;simpa using this)
 have hb:=hide (bl_alloc (bl_new w (.cells cs 83)) (.cells #[.bool false,.int .i64 0,.bool false,.string ⟨#[]⟩] 90))
 have HT:=hide (hT.below hb.out)
 clear hT
 go_enter Tryz.func190,Tryz.ntmps190
 go_upto_region 1 with fail
 generalize (w.alloc (.cells cs 83)).alloc (.cells #[.bool false,.int .i64 0,.bool false,.string ⟨#[]⟩] 90)=u at *
 obtain ⟨x2,_⟩:=ro_cf hA.out 2 _ e2
 clear HT
 obtain ⟨xa,_⟩:=ro_cf hA.out 1 _ e1
 obtain ⟨xb,_⟩:=ro_cf hA.out 0 _ e0
 go_wp2_with fail
 refine (R1.out _).mono ?_
 rintro e w6 ⟨rfl,h6⟩
 clear xa xb
 replace h4:=hide (h4.out.below h6)
 replace hb:=hide (bel_next hb.out h6)
 clear h6
 obtain ⟨x0,z0⟩:=ro_cf h4.out 0 (.bool false) rfl
 obtain ⟨x1,z1⟩:=ro_cf h4.out 1 (.int .i64 0) rfl
 obtain ⟨x2,z2⟩:=ro_cf h4.out 2 (.bool false) rfl
 obtain ⟨x3,z3⟩:=ro_cf h4.out 3 (.string ⟨#[]⟩) rfl
 go_wp2_with fail
 have r4:Ro ((((w6.setCell ⟨w.heap.size+1,0,none⟩ (.bool true)).setCell ⟨w.heap.size+1,1,none⟩ (.int .i64 so)).setCell ⟨w.heap.size+1,2,none⟩ (.bool false)).setCell ⟨w.heap.size+1,3,none⟩ (.string std)) (w.heap.size+1) #[.bool true,.int .i64 so,.bool false,.string std] 90:=by
  have:=ro_set (ro_set (ro_set (ro_set h4.out 0 (.bool true)) 1 (.int .i64 so)) 2 (.bool false)) 3 (.string std)
  simpa using this
 have hb2:=bl_set4' (a:=.bool true) (b:=.int .i64 so) (c:=.bool false) (d:=.string std) hb.out (g:=w.heap.size+1) (by omega)
 obtain ⟨y0,_⟩:=ro_cf r4 0 (.bool true) rfl
 obtain ⟨y1,_⟩:=ro_cf r4 1 (.int .i64 so) rfl
 obtain ⟨y2,_⟩:=ro_cf r4 2 (.bool false) rfl
 obtain ⟨y3,_⟩:=ro_cf r4 3 (.string std) rfl
 generalize (((w6.setCell ⟨w.heap.size+1,0,none⟩ (.bool true)).setCell ⟨w.heap.size+1,1,none⟩ (.int .i64 so)).setCell ⟨w.heap.size+1,2,none⟩ (.bool false)).setCell ⟨w.heap.size+1,3,none⟩ (.string std)=w7 at *
 clear x0 x1 x2 x3 z0 z1 z2 z3
 refine bodyPost_ret (v:=.agg #[.bool true,.int .i64 so,.bool false,.string std]) (by simp [results,Tryz.results190,go_sem,y0,y1,y2,y3]) rfl ⟨rfl,hb2⟩
theorem At_yes (std:ByteArray) (so:Int) (dst:ByteArray) (dof:Int) (st en:RD) (t:Int) (b:Bool) (w:World) (hT:Tb w) (hz:std.size≤1000000∧dst.size≤1000000) (h0:-9223372036854775808≤t) (h1:t<9223372036854775808) (hs:rdOk st) (he:rdOk en) (so0:offOk so) (do0:offOk dof) (hbn:b=true ↔ onS st en so dof t) :
 Calls Tryz.prog 190 #[.agg (crule std so true dst dof st en),.int .i64 t] w fun e w'=>e=.returned (vres b std so dst dof)∧Below w.heap.size w w':=by
 have R1:=hide (fun w=>result_ so false std w hz.1)
 have R2:=hide (fun w=>result_ dof true dst w hz.2)
 have D1:=hide (fun w hT=>isDaylight_ std so dst dof st en t b w hT h0 h1 hs he so0 do0 hbn)
 clear hs he so0 do0 hbn
 clear h0 h1 hz
 have G:=gr_rule std so true dst dof st en
 obtain ⟨cs,hcs⟩:∃ cs,crule std so true dst dof st en=cs:=⟨_,rfl⟩
 have e0:cs[0]?=some (.string std):=by rw [← hcs];rfl
 have e1:cs[1]?=some (.int .i64 so):=by rw [← hcs];rfl
 have e2:cs[2]?=some (.bool true):=by rw [← hcs];rfl
 have e3:cs[3]?=some (.string dst):=by rw [← hcs];rfl
 have e4:cs[4]?=some (.int .i64 dof):=by rw [← hcs];rfl
 simp only [hcs] at D1 G ⊢
 clear hcs
 have hA:=hide ((Ro.new w cs 83).alloc (.cells #[.bool false,.int .i64 0,.bool false,.string ⟨#[]⟩] 90))
 have h4:=hide (show Ro ((w.alloc (.cells cs 83)).alloc (.cells #[.bool false,.int .i64 0,.bool false,.string ⟨#[]⟩] 90)) (w.heap.size+1) #[.bool false,.int .i64 0,.bool false,.string ⟨#[]⟩] 90 by have:=Ro.new (w.alloc (.cells cs 83)) #[.bool false,.int .i64 0,.bool false,.string ⟨#[]⟩] 90;simpa using this)
 have hb:=hide (bl_alloc (bl_new w (.cells cs 83)) (.cells #[.bool false,.int .i64 0,.bool false,.string ⟨#[]⟩] 90))
 have HT:=hide (hT.below hb.out)
 clear hT
 go_enter Tryz.func190,Tryz.ntmps190
 go_upto_region 1 with fail
 generalize (w.alloc (.cells cs 83)).alloc (.cells #[.bool false,.int .i64 0,.bool false,.string ⟨#[]⟩] 90)=u at *
 obtain ⟨x2,_⟩:=ro_cf hA.out 2 _ e2
 go_wp2_with (refine load_row_g (by rfl) 83 _ rfl _ rfl _ _ _ hA.out Tryz.underlying83 rfl G.1 ?_)
 refine (D1.out _ HT.out).mono ?_
 rintro e w5 ⟨rfl,h5⟩
 clear x2
 replace hA:=hide (hA.out.below h5)
 replace h4:=hide (h4.out.below h5)
 replace hb:=hide (bel_next hb.out h5)
 clear h5
 cases b
 ·obtain ⟨xa,_⟩:=ro_cf hA.out 1 _ e1
  obtain ⟨xb,_⟩:=ro_cf hA.out 0 _ e0
  go_wp2_with fail
  refine (R1.out _).mono ?_
  rintro e w6 ⟨rfl,h6⟩
  clear xa xb
  replace h4:=hide (h4.out.below h6)
  replace hb:=hide (bel_next hb.out h6)
  clear h6
  obtain ⟨x0,z0⟩:=ro_cf h4.out 0 (.bool false) rfl
  obtain ⟨x1,z1⟩:=ro_cf h4.out 1 (.int .i64 0) rfl
  obtain ⟨x2,z2⟩:=ro_cf h4.out 2 (.bool false) rfl
  obtain ⟨x3,z3⟩:=ro_cf h4.out 3 (.string ⟨#[]⟩) rfl
  go_wp2_with fail
  have r4:Ro ((((w6.setCell ⟨w.heap.size+1,0,none⟩ (.bool true)).setCell ⟨w.heap.size+1,1,none⟩ (.int .i64 so)).setCell ⟨w.heap.size+1,2,none⟩ (.bool false)).setCell ⟨w.heap.size+1,3,none⟩ (.string std)) (w.heap.size+1) #[.bool true,.int .i64 so,.bool false,.string std] 90:=by
   have:=ro_set (ro_set (ro_set (ro_set h4.out 0 (.bool true)) 1 (.int .i64 so)) 2 (.bool false)) 3 (.string std)
   simpa using this
  have hb2:=bl_set4' (a:=.bool true) (b:=.int .i64 so) (c:=.bool false) (d:=.string std) hb.out (g:=w.heap.size+1) (by omega)
  obtain ⟨y0,_⟩:=ro_cf r4 0 (.bool true) rfl
  obtain ⟨y1,_⟩:=ro_cf r4 1 (.int .i64 so) rfl
  obtain ⟨y2,_⟩:=ro_cf r4 2 (.bool false) rfl
  obtain ⟨y3,_⟩:=ro_cf r4 3 (.string std) rfl
  generalize (((w6.setCell ⟨w.heap.size+1,0,none⟩ (.bool true)).setCell ⟨w.heap.size+1,1,none⟩ (.int .i64 so)).setCell ⟨w.heap.size+1,2,none⟩ (.bool false)).setCell ⟨w.heap.size+1,3,none⟩ (.string std)=w7 at *
  clear x0 x1 x2 x3 z0 z1 z2 z3
  refine bodyPost_ret (v:=.agg #[.bool true,.int .i64 so,.bool false,.string std]) (by simp [results,Tryz.results190,go_sem,y0,y1,y2,y3]) rfl ⟨rfl,hb2⟩
 ·obtain ⟨xa,_⟩:=ro_cf hA.out 4 _ e4
  obtain ⟨xb,_⟩:=ro_cf hA.out 3 _ e3
  go_wp2_with fail
  refine (R2.out _).mono ?_
  rintro e w6 ⟨rfl,h6⟩
  clear xa xb
  replace h4:=hide (h4.out.below h6)
  replace hb:=hide (bel_next hb.out h6)
  clear h6
  obtain ⟨x0,z0⟩:=ro_cf h4.out 0 (.bool false) rfl
  obtain ⟨x1,z1⟩:=ro_cf h4.out 1 (.int .i64 0) rfl
  obtain ⟨x2,z2⟩:=ro_cf h4.out 2 (.bool false) rfl
  obtain ⟨x3,z3⟩:=ro_cf h4.out 3 (.string ⟨#[]⟩) rfl
  go_wp2_with fail
  have r4:Ro ((((w6.setCell ⟨w.heap.size+1,0,none⟩ (.bool true)).setCell ⟨w.heap.size+1,1,none⟩ (.int .i64 dof)).setCell ⟨w.heap.size+1,2,none⟩ (.bool true)).setCell ⟨w.heap.size+1,3,none⟩ (.string dst)) (w.heap.size+1) #[.bool true,.int .i64 dof,.bool true,.string dst] 90:=by
   have:=ro_set (ro_set (ro_set (ro_set h4.out 0 (.bool true)) 1 (.int .i64 dof)) 2 (.bool true)) 3 (.string dst)
   simpa using this
  have hb2:=bl_set4' (a:=.bool true) (b:=.int .i64 dof) (c:=.bool true) (d:=.string dst) hb.out (g:=w.heap.size+1) (by omega)
  obtain ⟨y0,_⟩:=ro_cf r4 0 (.bool true) rfl
  obtain ⟨y1,_⟩:=ro_cf r4 1 (.int .i64 dof) rfl
  obtain ⟨y2,_⟩:=ro_cf r4 2 (.bool true) rfl
  obtain ⟨y3,_⟩:=ro_cf r4 3 (.string dst) rfl
  generalize (((w6.setCell ⟨w.heap.size+1,0,none⟩ (.bool true)).setCell ⟨w.heap.size+1,1,none⟩ (.int .i64 dof)).setCell ⟨w.heap.size+1,2,none⟩ (.bool true)).setCell ⟨w.heap.size+1,3,none⟩ (.string dst)=w7 at *
  clear x0 x1 x2 x3 z0 z1 z2 z3
  refine bodyPost_ret (v:=.agg #[.bool true,.int .i64 dof,.bool true,.string dst]) (by simp [results,Tryz.results190,go_sem,y0,y1,y2,y3]) rfl ⟨rfl,hb2⟩
theorem At (std:ByteArray) (so:Int) (hd:Bool) (dst:ByteArray) (dof:Int) (st en:RD) (t:Int) (b:Bool) (w:World) (hT:Tb w) (hz:std.size≤1000000∧dst.size≤1000000) (h0:-9223372036854775808≤t) (h1:t<9223372036854775808) (hv:RvOk hd so dof st en) (hbn:b=true ↔ ruleS hd st en so dof t) :
 Calls Tryz.prog 190 #[.agg (crule std so hd dst dof st en),.int .i64 t] w fun e w'=>e=.returned (vres b std so dst dof)∧Below w.heap.size w w':=by
 cases hd
 ·have:b=false:=by
   cases b
   ·rfl
   ·exact absurd (hbn.1 rfl) ruleS_no
  subst this
  exact At_no std so dst dof st en t w hT hz h0 h1
 ·obtain ⟨v1,v2,v3,v4⟩:=hv rfl
  refine At_yes std so dst dof st en t b w hT hz h0 h1 v1 v2 v3 v4 ?_
  rw [hbn]
  exact ⟨fun h=>h.2,fun h=>⟨rfl,h⟩⟩
end te_
end Go.Proofs.YtpapfpcehlhgeaaGreatDoor
