/-
  Texts of mine in one file: Tea. Their conditions stand in the theorems.
-/
import Derived.Test.YtpapfpcehlhgeaaGreatDoorE11
import Derived.Test.YtpapfpcehlhgeaaGreatDoorE07
namespace Go.Proofs.YtpapfpcehlhgeaaGreatDoor
set_option linter.unusedVariables false
set_option linter.unusedSimpArgs false
set_option maxRecDepth 100000
set_option maxHeartbeats 16000000
open Go.ChangeShapes Go.WideShapes Go.ChangeAt Go.RowKit
theorem ro_set2' {w:World} {g:Nat} {x0 x1 a' b':Value} {T:TypeId} (h:Ro w g #[a',b'] T):Ro ((w.setCell ⟨g,0,none⟩ x0).setCell ⟨g,1,none⟩ x1) g #[x0,x1] T:=ro_set2 h
namespace te_
theorem isNaN_ (a:Int) (w:World):Calls Tryz.prog 286 #[.int .i64 a] w fun e w'=>e=.returned (.bool false)∧w=w':=by
 go_enter Tryz.func286,Tryz.ntmps286
 go_wp2
 go_ret
 exact ⟨retb (by simp),rfl⟩
def cmp1 (a b:Int):Int:=if a<b then -1 else if b<a then 1 else 0
theorem cmp_ (a b:Int) (w:World):Calls Tryz.prog 272 #[.int .i64 a,.int .i64 b] w fun e w'=>e=.returned (.int .i64 (cmp1 a b))∧w=w':=by
 rcases Int.lt_trichotomy a b with h | h | h
 all_goals
  go_enter Tryz.func272,Tryz.ntmps272
  go_wp2_with (go_at_call 286;refine (isNaN_ _ _).mono ?_;rintro e w' ⟨rfl,rfl⟩)
  go_ret
  refine ⟨reti ?_,rfl⟩
  unfold cmp1
  first
   | (rw [if_pos (by omega)])
   | (rw [if_neg (by omega),if_pos (by omega)])
   | (rw [if_neg (by omega),if_neg (by omega)])
theorem or_ (x y:Int) (B:Nat) (w:World) (h0:w.cell? ⟨B,0,none⟩=some (.int .i64 x)) (h1:w.cell? ⟨B,1,none⟩=some (.int .i64 y)) :
 Calls Tryz.prog 271 #[.slice (some ⟨B,0,none⟩) 2 2] w fun e w'=>e=.returned (.int .i64 (if x=0 then y else x))∧w=w':=by
 go_enter Tryz.func271,Tryz.ntmps271
 go_wp2_with fail
 go_loop [8] (fun i=>(i=.int .i64 0)∨(i=.int .i64 1∧x=0)∨(i=.int .i64 2∧x=0∧y=0)) (fun i=>2 - (intOf i).toNat)
 case atStart=>exact .inl rfl
 case round =>
  rcases hrel with rfl | ⟨rfl,hx⟩ | ⟨rfl,hx,hy⟩
  ·by_cases hx:x=0
   ·go_wp2
    go_round
    case rel=>exact .inr (.inl ⟨rfl,hx⟩)
    case measure=>simp [intOf]
   ·go_wp2
    go_ret
    exact ⟨reti (by first | rfl | simp [hx]),rfl⟩
  ·by_cases hy:y=0
   ·go_wp2
    go_round
    case rel=>exact .inr (.inr ⟨rfl,hx,hy⟩)
    case measure=>simp [intOf]
   ·go_wp2
    go_ret
    exact ⟨reti (by first | rfl | simp [hx]),rfl⟩
  ·go_wp2
   go_ret
   exact ⟨reti (by first | rfl | simp [hx,hy] | simp [hx] | omega),rfl⟩
theorem cmp_or (a b c d:Int):(if cmp1 a c=0 then cmp1 b d else cmp1 a c)=cmpI a b c d:=by
 unfold cmpI cmp1
 rcases Int.lt_trichotomy a c with h | h | h
 ·simp [h]
 ·subst h
  rcases Int.lt_trichotomy b d with h | h | h
  ·simp [h]
  ·simp [h]
  ·have h1:¬ b<d:=by omega
   have h2:b≠d:=by omega
   simp [h,h1,h2]
 ·have h1:¬ a<c:=by omega
  have h2:a≠c:=by omega
  simp [h1,h2,h]
theorem cmpB_ (a b:Int) (w:World):Calls Tryz.prog 272 #[.int .i64 a,.int .i64 b] w fun e w'=>e=.returned (.int .i64 (cmp1 a b))∧Below w.heap.size w w' :=
 (cmp_ a b w).mono (by rintro e w' ⟨rfl,rfl⟩;exact ⟨rfl,bl_refl _⟩)
theorem orB_ (x y:Int) (B:Nat) (w:World) (h0:w.cell? ⟨B,0,none⟩=some (.int .i64 x)) (h1:w.cell? ⟨B,1,none⟩=some (.int .i64 y)) (v:Int) (hv:(if x=0 then y else x)=v) :
 Calls Tryz.prog 271 #[.slice (some ⟨B,0,none⟩) 2 2] w fun e w'=>e=.returned (.int .i64 v)∧Below w.heap.size w w' :=
 (or_ x y B w h0 h1).mono (by rintro e w' ⟨rfl,rfl⟩;exact ⟨by rw [hv],bl_refl _⟩)
theorem Compare (a b c d:Int) (w:World):Calls Tryz.prog 246 #[.agg #[.int .i64 a,.int .i64 b],.agg #[.int .i64 c,.int .i64 d]] w fun e w'=>e=.returned (.int .i64 (cmpI a b c d))∧Below w.heap.size w w':=by
 rw [← cmp_or]
 have C1:=hide (fun w=>cmpB_ a c w)
 have C2:=hide (fun w=>cmpB_ b d w)
 have hb:=hide (bl_alloc (bl_new w (.cells #[.int .i64 a,.int .i64 b] 151)) (.cells #[.int .i64 c,.int .i64 d] 151))
 generalize cmp1 a c=x at *
 generalize cmp1 b d=y at *
 obtain ⟨v,hv⟩:∃ v,(if x=0 then y else x)=v:=⟨_,rfl⟩
 have O:=hide (fun B w h0 h1=>orB_ x y B w h0 h1 v hv)
 rw [hv]
 clear hv
 have hA:=hide ((Ro.new w #[.int .i64 a,.int .i64 b] 151).alloc (.cells #[.int .i64 c,.int .i64 d] 151))
 have hC:=hide (show Ro ((w.alloc (.cells #[.int .i64 a,.int .i64 b] 151)).alloc (.cells #[.int .i64 c,.int .i64 d] 151)) (w.heap.size+1) #[.int .i64 c,.int .i64 d] 151 by have:=Ro.new (w.alloc (.cells #[.int .i64 a,.int .i64 b] 151)) #[.int .i64 c,.int .i64 d] 151;simpa using this)
 go_enter Tryz.func246,Tryz.ntmps246
 go_upto_region 1 with fail
 generalize (w.alloc (.cells #[.int .i64 a,.int .i64 b] 151)).alloc (.cells #[.int .i64 c,.int .i64 d] 151)=u at *
 refine wp_region_held_drew (S:=fun w'=>Hid (Ro w' (w.heap.size) (#[.int .i64 a,.int .i64 b]) 151)∧Hid (Ro w' (w.heap.size+1) (#[.int .i64 c,.int .i64 d]) 151)∧Hid (Below w.heap.size w w')) (by kernel_rfl) (⟨hide hA.out.drew,hide hC.out.drew,hide (bl_drew hb.out)⟩) (fun hHeld=>?_)
 generalize u.drew=u0 at *
 refine tkV 0 (some 5) (v:=?_) ?_ ?_
 rotate_left
 ·((intro w hSw;go_simp) <;> with_reducible rfl)
 try simp only [Act.put,sI1,sI2,sI3]
 refine tkV 1 (some 6) (v:=?_) ?_ ?_
 rotate_left
 ·((intro w hSw;obtain ⟨c0,_⟩:=ro_cf hSw.1.out 0 (.int .i64 a) rfl;go_simp) <;> with_reducible rfl)
 try simp only [Act.put,sI1,sI2,sI3]
 refine tkV 2 (some 7) (v:=?_) ?_ ?_
 rotate_left
 ·((intro w hSw;go_simp) <;> with_reducible rfl)
 try simp only [Act.put,sI1,sI2,sI3]
 refine tkV 3 (some 8) (v:=?_) ?_ ?_
 rotate_left
 ·((intro w hSw;obtain ⟨c0,_⟩:=ro_cf hSw.2.1.out 0 (.int .i64 c) rfl;go_simp) <;> with_reducible rfl)
 try simp only [Act.put,sI1,sI2,sI3]
 refine tkV 5 (some 10) (v:=?_) ?_ ?_
 rotate_left
 ·((intro w hSw;go_simp) <;> with_reducible rfl)
 try simp only [Act.put,sI1,sI2,sI3]
 refine tkV 6 (some 11) (v:=?_) ?_ ?_
 rotate_left
 ·((intro w hSw;obtain ⟨c0,_⟩:=ro_cf hSw.1.out 1 (.int .i64 b) rfl;go_simp) <;> with_reducible rfl)
 try simp only [Act.put,sI1,sI2,sI3]
 refine tkV 7 (some 12) (v:=?_) ?_ ?_
 rotate_left
 ·((intro w hSw;go_simp) <;> with_reducible rfl)
 try simp only [Act.put,sI1,sI2,sI3]
 refine tkV 8 (some 13) (v:=?_) ?_ ?_
 rotate_left
 ·((intro w hSw;obtain ⟨c0,_⟩:=ro_cf hSw.2.1.out 1 (.int .i64 d) rfl;go_simp) <;> with_reducible rfl)
 try simp only [Act.put,sI1,sI2,sI3]
 refine wpAnyH_ready (rs:=[4]) (by kernel_rfl) (by simp) ?_
 refine AllReadyH.cons rfl (fun K hK=>?_) (AllReadyH.nil)
 ·go_simp
  refine (C1.out _).mono ?_
  rintro e v1 ⟨rfl,h1'⟩
  refine hK.out _ _ (⟨hide (hHeld.1.out.below h1'),hide (hHeld.2.1.out.below h1'),hide (bel_next hHeld.2.2.out h1')⟩) (fun hHeld=>?_)
  clear hK K h1'
  try simp only [Act.put,sI1,sI2,sI3]
  refine wpAnyH_ready (rs:=[9]) (by kernel_rfl) (by simp) ?_
  refine AllReadyH.cons rfl (fun K hK=>?_) (AllReadyH.nil)
  ·go_simp
   refine (C2.out _).mono ?_
   rintro e v2 ⟨rfl,h1'⟩
   refine hK.out _ _ (⟨hide (hHeld.1.out.below h1'),hide (hHeld.2.1.out.below h1'),hide (bel_next hHeld.2.2.out h1')⟩) (fun hHeld=>?_)
   clear hK K h1'
   try simp only [Act.put,sI1,sI2,sI3]
   refine wpAnyH_ready (rs:=[10]) (by kernel_rfl) (by simp) ?_
   refine AllReadyH.cons rfl (fun K hK=>?_) (AllReadyH.nil)
   ·go_simp
    have lzv3:=hHeld.2.2.out.size
    have lbv3_0:=hHeld.1.out.lt
    have lbv3_1:=hHeld.2.1.out.lt
    have hz_s:=hide (Ro.new v2 #[.int .i64 x,.int .i64 y] 3)
    refine hK.out _ _ (⟨hide (hHeld.1.out.alloc _),hide (hHeld.2.1.out.alloc _),hide (bl_alloc hHeld.2.2.out _)⟩) (fun hHeld=>?_)
    clear hK K
    generalize v2.heap.size=g_s at *
    generalize v2.alloc (.cells #[.int .i64 x,.int .i64 y] 3)=v3 at *
    try simp only [Act.put,sI1,sI2,sI3]
    refine wpAnyH_ready (rs:=[11]) (by kernel_rfl) (by simp) ?_
    refine AllReadyH.cons rfl (fun K hK=>?_) (AllReadyH.nil)
    ·go_simp
     refine (O.out g_s _ (ro_cf hz_s.out 0 (.int .i64 x) rfl).1 (ro_cf hz_s.out 1 (.int .i64 y) rfl).1).mono ?_
     rintro e v4 ⟨rfl,h1'⟩
     replace hz_s:=hide (hz_s.out.below h1')
     refine hK.out _ _ (⟨hide (hHeld.1.out.below h1'),hide (hHeld.2.1.out.below h1'),hide (bel_next hHeld.2.2.out h1')⟩) (fun hHeld=>?_)
     clear hK K h1'
     try simp only [Act.put,sI1,sI2,sI3]
     refine tkV 12 (some 4) (v:=?_) ?_ ?_
     rotate_left
     ·((intro w hSw;go_simp) <;> with_reducible rfl)
     try simp only [Act.put,sI1,sI2,sI3]
     refine wpAnyH_done (by kernel_rfl) ?_ _
     go_wp2_with fail
     go_ret
     exact ⟨rfl,hHeld.2.2.out⟩
theorem cmp_vin (x y:Int):cmpI (x / 86400) (x % 86400) (y / 86400) (y % 86400)=cmp1 x y:=by
 unfold cmpI cmp1
 rcases Int.lt_trichotomy x y with h | h | h
 ·rw [if_pos (by omega),if_pos h]
 ·subst h;simp
 ·rw [if_neg (by omega),if_neg (by omega),if_neg (by omega),if_pos h]
theorem Compare_v (x y:Int) (w:World):Calls Tryz.prog 246 #[vin x,vin y] w fun e w'=>e=.returned (.int .i64 (cmp1 x y))∧Below w.heap.size w w':=by
 rw [← cmp_vin]
 exact Compare _ _ _ _ w
theorem instant_ (t:Int) (w:World) (h0:-9223372036854775808≤t) (h1:t<9223372036854775808):Calls Tryz.prog 243 #[.int .i64 t] w fun e w'=>e=.returned (vin t)∧Below w.heap.size w w':=by
 have S:=hide (fun w=>dt_.Split_ t w h0 h1)
 unfold vin cin
 generalize t / 86400=a at *
 generalize t % 86400=b at *
 have hb:=hide (bl_new w (.cells #[.int .i64 0,.int .i64 0] 151))
 have hR:=hide (Ro.new w #[.int .i64 0,.int .i64 0] 151)
 go_enter Tryz.func243,Tryz.ntmps243
 go_upto_region 1 with fail
 generalize w.alloc (.cells #[.int .i64 0,.int .i64 0] 151)=u at *
 obtain ⟨x0,z0⟩:=ro_cf hR.out 0 (.int .i64 0) rfl
 obtain ⟨x1,z1⟩:=ro_cf hR.out 1 (.int .i64 0) rfl
 go_wp2_with (go_at_call 266;refine (S.out _).mono ?_;rintro e w6 ⟨rfl,rfl⟩)
 have r2:=ro_set2 (a:=.int .i64 a) (b:=.int .i64 b) hR.out
 have hb2:=bl_set2 (a:=.int .i64 a) (b:=.int .i64 b) hb.out (g:=w.heap.size) (by omega)
 obtain ⟨y0,_⟩:=ro_cf r2 0 (.int .i64 a) rfl
 obtain ⟨y1,_⟩:=ro_cf r2 1 (.int .i64 b) rfl
 generalize (u.setCell ⟨w.heap.size,0,none⟩ (.int .i64 a)).setCell ⟨w.heap.size,1,none⟩ (.int .i64 b)=w7 at *
 clear x0 x1 z0 z1
 refine bodyPost_ret (v:=.agg #[.int .i64 a,.int .i64 b]) (by simp [results,Tryz.results243,go_sem,y0,y1]) rfl ⟨rfl,hb2⟩
theorem change_ (d:RD) (y off:Int) (w:World) (hT:Tb w) (hd:rdOk d) (ho:offOk off) (y0:-600000000001≤y) (y1:y≤600000000001) :
 Calls Tryz.prog 285 #[vrd d.1 d.2.1 d.2.2.1 d.2.2.2.1 d.2.2.2.2.1 d.2.2.2.2.2,.int .i64 y,.int .i64 off] w fun e w'=>e=.returned (vin (chI d off y))∧Below w.heap.size w w':=by
 obtain ⟨b0,b1⟩:=rday_bdw hd y0 y1
 have Dy:=hide (fun w hT=>rd_.Day y w hT hd y0 y1)
 obtain ⟨ts0,ts1⟩:=(show -604799≤d.2.2.2.2.2∧d.2.2.2.2.2≤604799 from ⟨hd.1,hd.2.1⟩)
 obtain ⟨o0,o1⟩:=ho
 have Sp:=hide (fun w=>dt_.Split_ (d.2.2.2.2.2 - off) w (by omega) (by omega))
 have f1:IntKind.i64.wrap (d.2.2.2.2.2 - off)=d.2.2.2.2.2 - off:=by rw [IntKind.wrap_i64];omega
 have k1:chI d off y / 86400=rdD d y+(d.2.2.2.2.2 - off) / 86400:=by unfold chI;omega
 have k2:chI d off y % 86400=(d.2.2.2.2.2 - off) % 86400:=by unfold chI;omega
 have f2:IntKind.i64.wrap (rdD d y+(d.2.2.2.2.2 - off) / 86400)=rdD d y+(d.2.2.2.2.2 - off) / 86400:=by rw [IntKind.wrap_i64];unfold rdD;omega
 unfold vin cin
 rw [k1,k2]
 unfold rdD at *
 generalize rday d.1 d.2.1 d.2.2.1 d.2.2.2.1 d.2.2.2.2.1 y=n at *
 obtain ⟨K,D,M,Wk,Wd,T⟩:=d
 simp only at *
 clear k1 k2 hd b0 b1 ts0 ts1 o0 o1 y0 y1
 generalize (T - off) / 86400=q at *
 generalize (T - off) % 86400=r at *
 unfold vrd at *
 have hb:=hide (bl_alloc (bl_new w (.cells #[.int .i64 K,.int .i64 D,.int .i64 M,.int .i64 Wk,.int .i64 Wd,.int .i64 T] 81)) (.cells #[.int .i64 0,.int .i64 0] 151))
 have hD:=hide ((Ro.new w #[.int .i64 K,.int .i64 D,.int .i64 M,.int .i64 Wk,.int .i64 Wd,.int .i64 T] 81).alloc (.cells #[.int .i64 0,.int .i64 0] 151))
 have hR:=hide (show Ro ((w.alloc (.cells #[.int .i64 K,.int .i64 D,.int .i64 M,.int .i64 Wk,.int .i64 Wd,.int .i64 T] 81)).alloc (.cells #[.int .i64 0,.int .i64 0] 151)) (w.heap.size+1) #[.int .i64 0,.int .i64 0] 151 by have:=Ro.new (w.alloc (.cells #[.int .i64 K,.int .i64 D,.int .i64 M,.int .i64 Wk,.int .i64 Wd,.int .i64 T] 81)) #[.int .i64 0,.int .i64 0] 151;simpa using this)
 have HT:=hide (hT.below hb.out)
 go_enter Tryz.func285,Tryz.ntmps285
 go_upto_region 1 with fail
 generalize (w.alloc (.cells #[.int .i64 K,.int .i64 D,.int .i64 M,.int .i64 Wk,.int .i64 Wd,.int .i64 T] 81)).alloc (.cells #[.int .i64 0,.int .i64 0] 151)=u at *
 obtain ⟨d0,_⟩:=ro_cf hD.out 0 (.int .i64 K) rfl
 obtain ⟨d1,_⟩:=ro_cf hD.out 1 (.int .i64 D) rfl
 obtain ⟨d2,_⟩:=ro_cf hD.out 2 (.int .i64 M) rfl
 obtain ⟨d3,_⟩:=ro_cf hD.out 3 (.int .i64 Wk) rfl
 obtain ⟨d4,_⟩:=ro_cf hD.out 4 (.int .i64 Wd) rfl
 obtain ⟨d5,_⟩:=ro_cf hD.out 5 (.int .i64 T) rfl
 go_wp2_with (go_at_call 266;refine (Sp.out _).mono ?_;rintro e w6 ⟨rfl,rfl⟩)
 refine (Dy.out _ HT.out).mono ?_
 rintro e w6 ⟨rfl,h6⟩
 replace hR:=hide (hR.out.below h6)
 replace hb:=hide (bel_next hb.out h6)
 clear h6 d0 d1 d2 d3 d4 d5 hD HT
 obtain ⟨x0,z0⟩:=ro_cf hR.out 0 (.int .i64 0) rfl
 obtain ⟨x1,z1⟩:=ro_cf hR.out 1 (.int .i64 0) rfl
 go_wp2_with fail
 have r2:=ro_set2 (a:=.int .i64 (n+q)) (b:=.int .i64 r) hR.out
 have hb2:=bl_set2 (a:=.int .i64 (n+q)) (b:=.int .i64 r) hb.out (g:=w.heap.size+1) (by omega)
 obtain ⟨y0,_⟩:=ro_cf r2 0 (.int .i64 (n+q)) rfl
 obtain ⟨y1,_⟩:=ro_cf r2 1 (.int .i64 r) rfl
 generalize (w6.setCell ⟨w.heap.size+1,0,none⟩ (.int .i64 (n+q))).setCell ⟨w.heap.size+1,1,none⟩ (.int .i64 r)=w7 at *
 clear x0 x1 z0 z1
 refine bodyPost_ret (v:=.agg #[.int .i64 (n+q),.int .i64 r]) (by simp [results,Tryz.results285,go_sem,y0,y1]) rfl ⟨rfl,hb2⟩
theorem toDaylight_ (std:ByteArray) (so:Int) (dst:ByteArray) (dof:Int) (st en:RD) (y:Int) (w:World) (hT:Tb w) (hs:rdOk st) (so0:offOk so) (y0:-600000000001≤y) (y1:y≤600000000001) :
 Calls Tryz.prog 269 #[.agg (crule std so true dst dof st en),.int .i64 y] w fun e w'=>e=.returned (vin (chI st so y))∧Below w.heap.size w w':=by
 have Ch:=hide (fun w hT=>change_ st y so w hT hs so0 y0 y1)
 unfold vin cin at *
 generalize chI st so y / 86400=a1 at *
 generalize chI st so y % 86400=a2 at *
 unfold vrd at Ch
 clear hs so0 y0 y1
 obtain ⟨cs,hcs⟩:∃ cs,crule std so true dst dof st en=cs:=⟨_,rfl⟩
 rw [hcs]
 replace hcs:=hide hcs
 have hR:=hide ((Ro.new w cs 83).alloc (.cells #[.int .i64 0,.int .i64 0] 151))
 have h4:=hide (show Ro ((w.alloc (.cells cs 83)).alloc (.cells #[.int .i64 0,.int .i64 0] 151)) (w.heap.size+1) #[.int .i64 0,.int .i64 0] 151 by have:=Ro.new (w.alloc (.cells cs 83)) #[.int .i64 0,.int .i64 0] 151;simpa using this)
 have hb:=hide (bl_alloc (bl_new w (.cells cs 83)) (.cells #[.int .i64 0,.int .i64 0] 151))
 have HT:=hide (hT.below hb.out)
 go_enter Tryz.func269,Tryz.ntmps269
 go_upto_region 1 with fail
 generalize (w.alloc (.cells cs 83)).alloc (.cells #[.int .i64 0,.int .i64 0] 151)=u at *
 obtain ⟨c0,c1,c2,c3,c4,c5,c6⟩:=rcS (by rw [hcs.out];exact hR.out)
 go_wp2_with fail
 refine (Ch.out _ HT.out).mono ?_
 rintro e w6 ⟨rfl,h6⟩
 replace h4:=hide (h4.out.below h6)
 replace hb:=hide (bel_next hb.out h6)
 clear h6 c0 c1 c2 c3 c4 c5 c6 hR HT
 obtain ⟨x0,z0⟩:=ro_cf h4.out 0 (.int .i64 0) rfl
 obtain ⟨x1,z1⟩:=ro_cf h4.out 1 (.int .i64 0) rfl
 go_wp2_with fail
 have r2:=ro_set2 (a:=.int .i64 a1) (b:=.int .i64 a2) h4.out
 have hb2:=bl_set2 (a:=.int .i64 a1) (b:=.int .i64 a2) hb.out (g:=w.heap.size+1) (by omega)
 obtain ⟨y0,_⟩:=ro_cf r2 0 (.int .i64 a1) rfl
 obtain ⟨y1,_⟩:=ro_cf r2 1 (.int .i64 a2) rfl
 generalize (w6.setCell ⟨w.heap.size+1,0,none⟩ (.int .i64 a1)).setCell ⟨w.heap.size+1,1,none⟩ (.int .i64 a2)=w7 at *
 clear x0 x1 z0 z1
 refine bodyPost_ret (v:=.agg #[.int .i64 a1,.int .i64 a2]) (by simp [results,Tryz.results269,go_sem,y0,y1]) rfl ⟨rfl,hb2⟩
theorem toStandard_ (std:ByteArray) (so:Int) (dst:ByteArray) (dof:Int) (st en:RD) (y:Int) (w:World) (hT:Tb w) (hs:rdOk en) (so0:offOk dof) (y0:-600000000001≤y) (y1:y≤600000000001) :
 Calls Tryz.prog 270 #[.agg (crule std so true dst dof st en),.int .i64 y] w fun e w'=>e=.returned (vin (chI en dof y))∧Below w.heap.size w w':=by
 have Ch:=hide (fun w hT=>change_ en y dof w hT hs so0 y0 y1)
 unfold vin cin at *
 generalize chI en dof y / 86400=a1 at *
 generalize chI en dof y % 86400=a2 at *
 unfold vrd at Ch
 clear hs so0 y0 y1
 obtain ⟨cs,hcs⟩:∃ cs,crule std so true dst dof st en=cs:=⟨_,rfl⟩
 rw [hcs]
 replace hcs:=hide hcs
 have hR:=hide ((Ro.new w cs 83).alloc (.cells #[.int .i64 0,.int .i64 0] 151))
 have h4:=hide (show Ro ((w.alloc (.cells cs 83)).alloc (.cells #[.int .i64 0,.int .i64 0] 151)) (w.heap.size+1) #[.int .i64 0,.int .i64 0] 151 by have:=Ro.new (w.alloc (.cells cs 83)) #[.int .i64 0,.int .i64 0] 151;simpa using this)
 have hb:=hide (bl_alloc (bl_new w (.cells cs 83)) (.cells #[.int .i64 0,.int .i64 0] 151))
 have HT:=hide (hT.below hb.out)
 go_enter Tryz.func270,Tryz.ntmps270
 go_upto_region 1 with fail
 generalize (w.alloc (.cells cs 83)).alloc (.cells #[.int .i64 0,.int .i64 0] 151)=u at *
 obtain ⟨c0,c1,c2,c3,c4,c5,c6⟩:=rcE (by rw [hcs.out];exact hR.out)
 go_wp2_with fail
 refine (Ch.out _ HT.out).mono ?_
 rintro e w6 ⟨rfl,h6⟩
 replace h4:=hide (h4.out.below h6)
 replace hb:=hide (bel_next hb.out h6)
 clear h6 c0 c1 c2 c3 c4 c5 c6 hR HT
 obtain ⟨x0,z0⟩:=ro_cf h4.out 0 (.int .i64 0) rfl
 obtain ⟨x1,z1⟩:=ro_cf h4.out 1 (.int .i64 0) rfl
 go_wp2_with fail
 have r2:=ro_set2 (a:=.int .i64 a1) (b:=.int .i64 a2) h4.out
 have hb2:=bl_set2 (a:=.int .i64 a1) (b:=.int .i64 a2) hb.out (g:=w.heap.size+1) (by omega)
 obtain ⟨y0,_⟩:=ro_cf r2 0 (.int .i64 a1) rfl
 obtain ⟨y1,_⟩:=ro_cf r2 1 (.int .i64 a2) rfl
 generalize (w6.setCell ⟨w.heap.size+1,0,none⟩ (.int .i64 a1)).setCell ⟨w.heap.size+1,1,none⟩ (.int .i64 a2)=w7 at *
 clear x0 x1 z0 z1
 refine bodyPost_ret (v:=.agg #[.int .i64 a1,.int .i64 a2]) (by simp [results,Tryz.results270,go_sem,y0,y1]) rfl ⟨rfl,hb2⟩
end te_
end Go.Proofs.YtpapfpcehlhgeaaGreatDoor
