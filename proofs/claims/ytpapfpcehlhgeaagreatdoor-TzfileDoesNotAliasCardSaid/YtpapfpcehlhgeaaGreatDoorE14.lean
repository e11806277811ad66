/-
  Texts of mine in one file: Teb. Their conditions stand in the theorems.
-/
import Derived.Test.YtpapfpcehlhgeaaGreatDoorE13
import Derived.Test.YtpapfpcehlhgeaaGreatDoorE02
import Derived.RangeFuncNested
import Derived.RangeFuncBound
import Derived.RangeFuncCalls
import Derived.RangeFuncLeaves
import Derived.Shelf.Abstract
import Derived.Shelf.RegionOpen
import Derived.WalkKit
import Derived.OwnWalkIn
import Derived.TacticsInMore
import Derived.LoopNIn
import Derived.LoopIn
namespace Go.Proofs.YtpapfpcehlhgeaaGreatDoor
set_option linter.unusedVariables false
set_option linter.unusedSimpArgs false
set_option maxRecDepth 100000
set_option maxHeartbeats 16000000
open Go.ChangeShapes Go.WideShapes Go.ChangeAt Go.RowKit
open Go.ChangeShapes Go.WideShapes Go.ChangeAt Go.RowKit Go.Shelf
attribute [local go_sem] Oper.semAt_some
theorem Mg.len {st en:RD} {so dof lo hi:Int} {pre:List (Int × Bool)} {ys ye:Int} (h:Mg st en so dof lo hi pre ys ye):(pre.length:Int)≤(ys - lo)+(ye - lo):=by
 induction h with
 | nil=>simp
 | a=>simp;omega
 | ab=>simp;omega
 | b=>simp;omega
theorem tb_k {W W':World} {n:Nat} (h:Tb W) (hb:Below n W W') (hn:4<n):Tb W':=⟨Nat.lt_of_lt_of_le h.1 hb.size,fun i v hv=>(hb.cell (p:=⟨4,i,none⟩) hn).trans (h.2 i v hv)⟩
def Kpp (n₀ gL gR:Nat) (W W':World):Prop:=Below n₀ W W'∧W'.heap[gL]?=W.heap[gL]?∧W'.heap[gR]?=W.heap[gR]?
theorem kpp_t {n₀ gL gR:Nat} {A B C:World} (h:Kpp n₀ gL gR A B) (k:Kpp n₀ gL gR B C):Kpp n₀ gL gR A C:=⟨h.1.trans k.1,k.2.1.trans h.2.1,k.2.2.trans h.2.2⟩
theorem kpp_b {n₀ gL gR:Nat} {w:World} (hn:n₀≤w.heap.size) (hL:gL<w.heap.size) (hR:gR<w.heap.size) (W:World) (l:Nat) (o o':Obj) (hl:w.heap.size≤l) (h:W.heap[l]?=some o) (hc:o.isCells=false) (hw:o.isWalk=false):Kpp n₀ gL gR W (W.putObj l o') :=
 ⟨belowK_b hn W l o o' hl h hc hw,World.putObj_heap_other (by omega),World.putObj_heap_other (by omega)⟩
theorem kpp_below {n₀ gL gR:Nat} {W W':World} (h:Below W.heap.size W W') (hn:n₀≤W.heap.size) (hL:gL<W.heap.size) (hR:gR<W.heap.size):Kpp n₀ gL gR W W':=⟨h.mono hn,h.block gL hL,h.block gR hR⟩
def encC (x:Int × Bool):Array Value:=#[vin x.1,.bool x.2]
namespace te_
theorem stops_ (std:ByteArray) (so:Int) (dst:ByteArray) (dof:Int) (st en:RD) (f l:Int) (gF gL gR n₀ n:Nat) (w:World) (hT:Tb w) (hn0:4<n₀)
 (hF:Ro w gF #[.int .i64 f] 3) (hL:Ro w gL #[.int .i64 l] 3) (hR:Ro w gR (crule std so true dst dof st en) 83) (hs:rdOk st) (he:rdOk en) (so0:offOk so) (do0:offOk dof) (hf:-600000000000≤f) (hl:l≤600000000000) (hfl:f≤l) :
 SeqStopsK Fence.wide n Tryz.prog 268 #[.pointer (some ⟨gF,0,none⟩),.pointer (some ⟨gL,0,none⟩),.pointer (some ⟨gR,0,none⟩)] encC (Kpp n₀ gL gR)
  (fun xs=>∃ ys ye,Mg st en so dof f l xs ys ye∧(l<ys∨l<ye)) (fun pre=>∃ ys ye,Mg st en so dof f l pre ys ye) (2 * (l+1 - f)).toNat w:=fun lp J Jx W hW hJ hJx hY h0=>by
 have D1:=hide (fun y w hT y0 y1=>toDaylight_ std so dst dof st en y w hT hs so0 y0 y1)
 have D2:=hide (fun y w hT y0 y1=>toStandard_ std so dst dof st en y w hT he do0 y0 y1)
 have G:=gr_rule std so true dst dof st en
 obtain ⟨cs,hcs⟩:∃ cs,crule std so true dst dof st en=cs:=⟨_,rfl⟩
 rw [hcs] at D1 D2 G hR
 clear hcs
 replace hT:=hide (hT.below hW)
 replace hF:=hF.below hW
 replace hL:=hide (hL.below hW)
 replace hR:=hide (hR.below hW)
 have hYY:=hide hY
 clear hY hJx
 refine callsIn_wide.2 ?_
 show Calls Tryz.prog 268 #[.func (.yield lp) #[] #[],.pointer (some ⟨gF,0,none⟩),.pointer (some ⟨gL,0,none⟩),.pointer (some ⟨gR,0,none⟩)] W _
 go_enter Tryz.func268,Tryz.ntmps268
 go_upto_region 0 with fail
 refine wp_region_held_drew (S:=fun w'=>Hid (Ro w' (gF) (#[.int .i64 f]) 3)∧Hid (Below W.heap.size W w')) (by kernel_rfl) (⟨hide hF.drew,hide (bl_drew (bl_refl _))⟩) (fun hHeld=>?_)
 generalize W.drew=u0 at *
 refine tkV 0 (some 10) (v:=?_) ?_ ?_
 rotate_left
 ·((intro w hSw;obtain ⟨c0,_⟩:=ro_cf hSw.1.out 0 (.int .i64 f) rfl;go_simp) <;> with_reducible rfl)
 try simp only [Act.put,sI1,sI2,sI3]
 refine tkV 1 (some 11) (v:=?_) ?_ ?_
 rotate_left
 ·((intro w hSw;obtain ⟨c0,_⟩:=ro_cf hSw.1.out 0 (.int .i64 f) rfl;go_simp) <;> with_reducible rfl)
 try simp only [Act.put,sI1,sI2,sI3]
 refine tkV 2 (some 5) (v:=?_) ?_ ?_
 rotate_left
 ·((intro w hSw;go_simp) <;> with_reducible rfl)
 try simp only [Act.put,sI1,sI2,sI3]
 refine tkV 3 (some 6) (v:=?_) ?_ ?_
 rotate_left
 ·((intro w hSw;go_simp) <;> with_reducible rfl)
 try simp only [Act.put,sI1,sI2,sI3]
 refine wpAnyH_done (by kernel_rfl) ?_ _
 replace h0:=hJ _ _ _ none h0 (grown_of hHeld.2.out) (fun r e=>by cases e)
 replace hL:=hide (hL.out.below hHeld.2.out)
 replace hR:=hide (hR.out.below hHeld.2.out)
 replace hT:=hide (hT.out.below hHeld.2.out)
 clear hHeld hF
 go_wp2_with fail
 go_loopw [5,6] (fun s5 s6 wr=>∃ pre ys ye,s5=.int .i64 ys∧s6=.int .i64 ye∧Mg st en so dof f l pre ys ye∧J pre wr∧Ro wr gL #[.int .i64 l] 3∧Ro wr gR cs 83∧Tb wr)
  (fun s5 s6 _=>((l+1 - intOf s5)+(l+1 - intOf s6)).toNat)
 case atStart=>exact ⟨[],f,f,rfl,rfl,.nil,h0,hL.out,hR.out,hT.out⟩
 case round =>
  clear hL hR hT h0
  obtain ⟨pre,ys,ye,rfl,rfl,hm,hj,hL,hR,hT⟩:=hrel
  have iv:=hm.inv hs he
  have l1:=iv.l1
  have l2:=iv.l2
  have ln:=hm.len
  clear iv
  obtain ⟨x0,_⟩:=ro_cf hL 0 (.int .i64 l) rfl
  by_cases c1:ys≤l
  ·by_cases c2:ye≤l
   ·have hlen:pre.length<(2 * (l+1 - f)).toNat:=by omega
    have hm':=hide hm
    have C:=hide (fun w=>Compare_v (chI st so ys) (chI en dof ye) w)
    have E1:=hide (D1.out ys · · (by omega) (by omega))
    have E2:=hide (D2.out ye · · (by omega) (by omega))
    have hcmp:(chI st so ys<chI en dof ye∧cmp1 (chI st so ys) (chI en dof ye)=-1)∨(chI st so ys=chI en dof ye∧cmp1 (chI st so ys) (chI en dof ye)=0)∨(chI en dof ye<chI st so ys∧cmp1 (chI st so ys) (chI en dof ye)=1):=by
     unfold cmp1
     rcases Int.lt_trichotomy (chI st so ys) (chI en dof ye) with h | h | h
     ·exact .inl ⟨h,by rw [if_pos h]⟩
     ·exact .inr (.inl ⟨h,by rw [if_neg (by omega),if_neg (by omega)]⟩)
     ·exact .inr (.inr ⟨h,by rw [if_neg (by omega),if_pos h]⟩)
    replace hcmp:=hide hcmp
    generalize cmp1 (chI st so ys) (chI en dof ye)=v at *
    unfold vin cin at C E1 E2
    obtain ⟨a1,ha1⟩:∃ a,chI st so ys / 86400=a:=⟨_,rfl⟩
    obtain ⟨a2,ha2⟩:∃ a,chI st so ys % 86400=a:=⟨_,rfl⟩
    obtain ⟨b1,hb1⟩:∃ a,chI en dof ye / 86400=a:=⟨_,rfl⟩
    obtain ⟨b2,hb2⟩:∃ a,chI en dof ye % 86400=a:=⟨_,rfl⟩
    rw [ha1,ha2,hb1,hb2] at C
    rw [ha1,ha2] at E1
    rw [hb1,hb2] at E2
    have va:vin (chI st so ys)=.agg #[.int .i64 a1,.int .i64 a2]:=by unfold vin cin;rw [ha1,ha2]
    have vb:vin (chI en dof ye)=.agg #[.int .i64 b1,.int .i64 b2]:=by unfold vin cin;rw [hb1,hb2]
    replace va:=hide va
    replace vb:=hide vb
    clear ha1 ha2 hb1 hb2
    replace hR:=hide hR
    replace hL:=hide hL
    have hT':=hide hT
    have hjj:=hide hj
    clear hj
    go_upto_region 2 with fail
    go_cut [7,8] (fun s7 s8 wx=>∃ g7 g8:Nat,s7=.pointer (some ⟨g7,0,none⟩)∧s8=.pointer (some ⟨g8,0,none⟩)∧Ro wx g7 #[.int .i64 a1,.int .i64 a2] 151∧Ro wx g8 #[.int .i64 b1,.int .i64 b2] 151∧wr.heap.size≤g7∧g7≠g8∧Below wr.heap.size wr wx)
    case first =>
     refine wp_region_held_drew (S:=fun w'=>Hid (Ro w' (gR) (cs) 83)∧Hid (Below wr.heap.size wr w')) (by kernel_rfl) (⟨hide hR.out.drew,hide (bl_drew (bl_refl _))⟩) (fun hHeld=>?_)
     generalize wr.drew=u0 at *
     refine wpAnyH_takeD (i:=0) (d:=(some 20)) rfl rfl (by kernel_rfl) (by kernel_rfl) (by kernel_rfl) (fun _ _ _ h=>h) (yieldsIf_load_row (by rfl) 83 _ rfl gR rfl 83 cs _ (fun w hw=>hw.1.out) Tryz.underlying83 rfl G.1) (by assumption) ?_
     try simp only [Act.put,sI1,sI2,sI3]
     refine tkV 1 (some 21) (v:=?_) ?_ ?_
     rotate_left
     ·((intro w hSw;go_simp) <;> with_reducible rfl)
     try simp only [Act.put,sI1,sI2,sI3]
     refine wpAnyH_takeD (i:=3) (d:=(some 23)) rfl rfl (by kernel_rfl) (by kernel_rfl) (by kernel_rfl) (fun _ _ _ h=>h) (yieldsIf_load_row (by rfl) 83 _ rfl gR rfl 83 cs _ (fun w hw=>hw.1.out) Tryz.underlying83 rfl G.1) (by assumption) ?_
     try simp only [Act.put,sI1,sI2,sI3]
     refine tkV 4 (some 24) (v:=?_) ?_ ?_
     rotate_left
     ·((intro w hSw;go_simp) <;> with_reducible rfl)
     try simp only [Act.put,sI1,sI2,sI3]
     refine wpAnyH_ready (rs:=[2,6,7]) (by kernel_rfl) (by simp) ?_
     refine AllReadyH.cons rfl (fun K hK=>?_) (AllReadyH.cons rfl (fun K hK=>?_) (AllReadyH.cons rfl (fun K hK=>?_) (AllReadyH.nil)))
     ·go_simp
      refine (E1.out _ (hT.below hHeld.2.out)).mono ?_
      rintro e v1 ⟨rfl,h1'⟩
      refine hK.out _ _ (⟨hide (hHeld.1.out.below h1'),hide (bel_next hHeld.2.out h1')⟩) (fun hHeld=>?_)
      clear hK K h1'
      try simp only [Act.put,sI1,sI2,sI3]
      refine wpAnyH_ready (rs:=[5,6,7]) (by kernel_rfl) (by simp) ?_
      refine AllReadyH.cons rfl (fun K hK=>?_) (AllReadyH.cons rfl (fun K hK=>?_) (AllReadyH.cons rfl (fun K hK=>?_) (AllReadyH.nil)))
      ·go_simp
       refine (E2.out _ (hT.below hHeld.2.out)).mono ?_
       rintro e v2 ⟨rfl,h1'⟩
       refine hK.out _ _ (⟨hide (hHeld.1.out.below h1'),hide (bel_next hHeld.2.out h1')⟩) (fun hHeld=>?_)
       clear hK K h1'
       try simp only [Act.put,sI1,sI2,sI3]
       refine wpAnyH_ready (rs:=[6,7]) (by kernel_rfl) (by simp) ?_
       refine AllReadyH.cons rfl (fun K hK=>?_) (AllReadyH.cons rfl (fun K hK=>?_) (AllReadyH.nil))
       ·go_simp
        have lzv3:=hHeld.2.out.size
        have lbv3_0:=hHeld.1.out.lt
        have hz_c:=hide (Ro.new v2 #[.int .i64 0,.int .i64 0] 151)
        refine hK.out _ _ (⟨hide (hHeld.1.out.alloc _),hide (bl_alloc hHeld.2.out _)⟩) (fun hHeld=>?_)
        clear hK K
        generalize v2.heap.size=g_c at *
        generalize v2.alloc (.cells #[.int .i64 0,.int .i64 0] 151)=v3 at *
        try simp only [Act.put,sI1,sI2,sI3]
        refine wpAnyH_ready (rs:=[7]) (by kernel_rfl) (by simp) ?_
        refine AllReadyH.cons rfl (fun K hK=>?_) (AllReadyH.nil)
        ·go_simp
         have lzv4:=hHeld.2.out.size
         have lbv4_0:=hHeld.1.out.lt
         have lov4_c:=hz_c.out.lt
         have hz_e:=hide (Ro.new v3 #[.int .i64 0,.int .i64 0] 151)
         replace hz_c:=hide (hz_c.out.alloc (.cells #[.int .i64 0,.int .i64 0] 151))
         refine hK.out _ _ (⟨hide (hHeld.1.out.alloc _),hide (bl_alloc hHeld.2.out _)⟩) (fun hHeld=>?_)
         clear hK K
         generalize v3.heap.size=g_e at *
         generalize v3.alloc (.cells #[.int .i64 0,.int .i64 0] 151)=v4 at *
         try simp only [Act.put,sI1,sI2,sI3]
         refine wpAnyH_ready (rs:=[8]) (by kernel_rfl) (by simp) ?_
         refine AllReadyH.cons rfl (fun K hK=>?_) (AllReadyH.nil)
         ·obtain ⟨y0,z0⟩:=ro_cf hz_c.out 0 _ rfl;obtain ⟨y1,z1⟩:=ro_cf hz_c.out 1 _ rfl
          go_simp
          refine hK.out _ _ (⟨hide (ro_away2 (g':=g_c) hHeld.1.out (by omega)),hide (bl_set2 (g:=g_c) hHeld.2.out (by omega))⟩) (fun hHeld=>?_)
          clear hK K y0 z0 y1 z1
          replace hz_c:=hide (ro_set2' (x0:=.int .i64 a1) (x1:=.int .i64 a2) hz_c.out)
          replace hz_e:=hide (ro_away2 (g':=g_c) (a:=.int .i64 a1) (b:=.int .i64 a2) hz_e.out (by omega))
          generalize ((v4.setCell ⟨g_c,0,none⟩ (.int .i64 a1)).setCell ⟨g_c,1,none⟩ (.int .i64 a2))=v5 at *
          try simp only [Act.put,sI1,sI2,sI3]
          refine wpAnyH_ready (rs:=[9]) (by kernel_rfl) (by simp) ?_
          refine AllReadyH.cons rfl (fun K hK=>?_) (AllReadyH.nil)
          ·obtain ⟨y0,z0⟩:=ro_cf hz_e.out 0 _ rfl;obtain ⟨y1,z1⟩:=ro_cf hz_e.out 1 _ rfl
           go_simp
           refine hK.out _ _ (⟨hide (ro_away2 (g':=g_e) hHeld.1.out (by omega)),hide (bl_set2 (g:=g_e) hHeld.2.out (by omega))⟩) (fun hHeld=>?_)
           clear hK K y0 z0 y1 z1
           replace hz_e:=hide (ro_set2' (x0:=.int .i64 b1) (x1:=.int .i64 b2) hz_e.out)
           replace hz_c:=hide (ro_away2 (g':=g_e) (a:=.int .i64 b1) (b:=.int .i64 b2) hz_c.out (by omega))
           generalize ((v5.setCell ⟨g_e,0,none⟩ (.int .i64 b1)).setCell ⟨g_e,1,none⟩ (.int .i64 b2))=v6 at *
           try simp only [Act.put,sI1,sI2,sI3]
           refine wpAnyH_done (by kernel_rfl) ?_ _
           go_wp2_with fail
           go_meet
           exact ⟨_,_,rfl,rfl,hz_c.out,hz_e.out,by omega,by omega,hHeld.2.out⟩
       ·go_simp
        have lzv7:=hHeld.2.out.size
        have lbv7_0:=hHeld.1.out.lt
        have hz_e:=hide (Ro.new v2 #[.int .i64 0,.int .i64 0] 151)
        refine hK.out _ _ (⟨hide (hHeld.1.out.alloc _),hide (bl_alloc hHeld.2.out _)⟩) (fun hHeld=>?_)
        clear hK K
        generalize v2.heap.size=g_e at *
        generalize v2.alloc (.cells #[.int .i64 0,.int .i64 0] 151)=v7 at *
        try simp only [Act.put,sI1,sI2,sI3]
        refine wpAnyH_ready (rs:=[6]) (by kernel_rfl) (by simp) ?_
        refine AllReadyH.cons rfl (fun K hK=>?_) (AllReadyH.nil)
        ·go_simp
         have lzv8:=hHeld.2.out.size
         have lbv8_0:=hHeld.1.out.lt
         have lov8_e:=hz_e.out.lt
         have hz_c:=hide (Ro.new v7 #[.int .i64 0,.int .i64 0] 151)
         replace hz_e:=hide (hz_e.out.alloc (.cells #[.int .i64 0,.int .i64 0] 151))
         refine hK.out _ _ (⟨hide (hHeld.1.out.alloc _),hide (bl_alloc hHeld.2.out _)⟩) (fun hHeld=>?_)
         clear hK K
         generalize v7.heap.size=g_c at *
         generalize v7.alloc (.cells #[.int .i64 0,.int .i64 0] 151)=v8 at *
         try simp only [Act.put,sI1,sI2,sI3]
         refine wpAnyH_ready (rs:=[8]) (by kernel_rfl) (by simp) ?_
         refine AllReadyH.cons rfl (fun K hK=>?_) (AllReadyH.nil)
         ·obtain ⟨y0,z0⟩:=ro_cf hz_c.out 0 _ rfl;obtain ⟨y1,z1⟩:=ro_cf hz_c.out 1 _ rfl
          go_simp
          refine hK.out _ _ (⟨hide (ro_away2 (g':=g_c) hHeld.1.out (by omega)),hide (bl_set2 (g:=g_c) hHeld.2.out (by omega))⟩) (fun hHeld=>?_)
          clear hK K y0 z0 y1 z1
          replace hz_c:=hide (ro_set2' (x0:=.int .i64 a1) (x1:=.int .i64 a2) hz_c.out)
          replace hz_e:=hide (ro_away2 (g':=g_c) (a:=.int .i64 a1) (b:=.int .i64 a2) hz_e.out (by omega))
          generalize ((v8.setCell ⟨g_c,0,none⟩ (.int .i64 a1)).setCell ⟨g_c,1,none⟩ (.int .i64 a2))=v9 at *
          try simp only [Act.put,sI1,sI2,sI3]
          refine wpAnyH_ready (rs:=[9]) (by kernel_rfl) (by simp) ?_
          refine AllReadyH.cons rfl (fun K hK=>?_) (AllReadyH.nil)
          ·obtain ⟨y0,z0⟩:=ro_cf hz_e.out 0 _ rfl;obtain ⟨y1,z1⟩:=ro_cf hz_e.out 1 _ rfl
           go_simp
           refine hK.out _ _ (⟨hide (ro_away2 (g':=g_e) hHeld.1.out (by omega)),hide (bl_set2 (g:=g_e) hHeld.2.out (by omega))⟩) (fun hHeld=>?_)
           clear hK K y0 z0 y1 z1
           replace hz_e:=hide (ro_set2' (x0:=.int .i64 b1) (x1:=.int .i64 b2) hz_e.out)
           replace hz_c:=hide (ro_away2 (g':=g_e) (a:=.int .i64 b1) (b:=.int .i64 b2) hz_c.out (by omega))
           generalize ((v9.setCell ⟨g_e,0,none⟩ (.int .i64 b1)).setCell ⟨g_e,1,none⟩ (.int .i64 b2))=v10 at *
           try simp only [Act.put,sI1,sI2,sI3]
           refine wpAnyH_done (by kernel_rfl) ?_ _
           go_wp2_with fail
           go_meet
           exact ⟨_,_,rfl,rfl,hz_c.out,hz_e.out,by omega,by omega,hHeld.2.out⟩
      ·go_simp
       have lzv11:=hHeld.2.out.size
       have lbv11_0:=hHeld.1.out.lt
       have hz_c:=hide (Ro.new v1 #[.int .i64 0,.int .i64 0] 151)
       refine hK.out _ _ (⟨hide (hHeld.1.out.alloc _),hide (bl_alloc hHeld.2.out _)⟩) (fun hHeld=>?_)
       clear hK K
       generalize v1.heap.size=g_c at *
       generalize v1.alloc (.cells #[.int .i64 0,.int .i64 0] 151)=v11 at *
       try simp only [Act.put,sI1,sI2,sI3]
       refine wpAnyH_ready (rs:=[5,7]) (by kernel_rfl) (by simp) ?_
       refine AllReadyH.cons rfl (fun K hK=>?_) (AllReadyH.cons rfl (fun K hK=>?_) (AllReadyH.nil))
       ·go_simp
        refine (E2.out _ (hT.below hHeld.2.out)).mono ?_
        rintro e v12 ⟨rfl,h1'⟩
        replace hz_c:=hide (hz_c.out.below h1')
        refine hK.out _ _ (⟨hide (hHeld.1.out.below h1'),hide (bel_next hHeld.2.out h1')⟩) (fun hHeld=>?_)
        clear hK K h1'
        try simp only [Act.put,sI1,sI2,sI3]
        refine wpAnyH_ready (rs:=[7]) (by kernel_rfl) (by simp) ?_
        refine AllReadyH.cons rfl (fun K hK=>?_) (AllReadyH.nil)
        ·go_simp
         have lzv13:=hHeld.2.out.size
         have lbv13_0:=hHeld.1.out.lt
         have lov13_c:=hz_c.out.lt
         have hz_e:=hide (Ro.new v12 #[.int .i64 0,.int .i64 0] 151)
         replace hz_c:=hide (hz_c.out.alloc (.cells #[.int .i64 0,.int .i64 0] 151))
         refine hK.out _ _ (⟨hide (hHeld.1.out.alloc _),hide (bl_alloc hHeld.2.out _)⟩) (fun hHeld=>?_)
         clear hK K
         generalize v12.heap.size=g_e at *
         generalize v12.alloc (.cells #[.int .i64 0,.int .i64 0] 151)=v13 at *
         try simp only [Act.put,sI1,sI2,sI3]
         refine wpAnyH_ready (rs:=[8]) (by kernel_rfl) (by simp) ?_
         refine AllReadyH.cons rfl (fun K hK=>?_) (AllReadyH.nil)
         ·obtain ⟨y0,z0⟩:=ro_cf hz_c.out 0 _ rfl;obtain ⟨y1,z1⟩:=ro_cf hz_c.out 1 _ rfl
          go_simp
          refine hK.out _ _ (⟨hide (ro_away2 (g':=g_c) hHeld.1.out (by omega)),hide (bl_set2 (g:=g_c) hHeld.2.out (by omega))⟩) (fun hHeld=>?_)
          clear hK K y0 z0 y1 z1
          replace hz_c:=hide (ro_set2' (x0:=.int .i64 a1) (x1:=.int .i64 a2) hz_c.out)
          replace hz_e:=hide (ro_away2 (g':=g_c) (a:=.int .i64 a1) (b:=.int .i64 a2) hz_e.out (by omega))
          generalize ((v13.setCell ⟨g_c,0,none⟩ (.int .i64 a1)).setCell ⟨g_c,1,none⟩ (.int .i64 a2))=v14 at *
          try simp only [Act.put,sI1,sI2,sI3]
          refine wpAnyH_ready (rs:=[9]) (by kernel_rfl) (by simp) ?_
          refine AllReadyH.cons rfl (fun K hK=>?_) (AllReadyH.nil)
          ·obtain ⟨y0,z0⟩:=ro_cf hz_e.out 0 _ rfl;obtain ⟨y1,z1⟩:=ro_cf hz_e.out 1 _ rfl
           go_simp
           refine hK.out _ _ (⟨hide (ro_away2 (g':=g_e) hHeld.1.out (by omega)),hide (bl_set2 (g:=g_e) hHeld.2.out (by omega))⟩) (fun hHeld=>?_)
           clear hK K y0 z0 y1 z1
           replace hz_e:=hide (ro_set2' (x0:=.int .i64 b1) (x1:=.int .i64 b2) hz_e.out)
           replace hz_c:=hide (ro_away2 (g':=g_e) (a:=.int .i64 b1) (b:=.int .i64 b2) hz_c.out (by omega))
           generalize ((v14.setCell ⟨g_e,0,none⟩ (.int .i64 b1)).setCell ⟨g_e,1,none⟩ (.int .i64 b2))=v15 at *
           try simp only [Act.put,sI1,sI2,sI3]
           refine wpAnyH_done (by kernel_rfl) ?_ _
           go_wp2_with fail
           go_meet
           exact ⟨_,_,rfl,rfl,hz_c.out,hz_e.out,by omega,by omega,hHeld.2.out⟩
       ·go_simp
        have lzv16:=hHeld.2.out.size
        have lbv16_0:=hHeld.1.out.lt
        have lov16_c:=hz_c.out.lt
        have hz_e:=hide (Ro.new v11 #[.int .i64 0,.int .i64 0] 151)
        replace hz_c:=hide (hz_c.out.alloc (.cells #[.int .i64 0,.int .i64 0] 151))
        refine hK.out _ _ (⟨hide (hHeld.1.out.alloc _),hide (bl_alloc hHeld.2.out _)⟩) (fun hHeld=>?_)
        clear hK K
        generalize v11.heap.size=g_e at *
        generalize v11.alloc (.cells #[.int .i64 0,.int .i64 0] 151)=v16 at *
        try simp only [Act.put,sI1,sI2,sI3]
        refine wpAnyH_ready (rs:=[5]) (by kernel_rfl) (by simp) ?_
        refine AllReadyH.cons rfl (fun K hK=>?_) (AllReadyH.nil)
        ·go_simp
         refine (E2.out _ (hT.below hHeld.2.out)).mono ?_
         rintro e v17 ⟨rfl,h1'⟩
         replace hz_c:=hide (hz_c.out.below h1')
         replace hz_e:=hide (hz_e.out.below h1')
         refine hK.out _ _ (⟨hide (hHeld.1.out.below h1'),hide (bel_next hHeld.2.out h1')⟩) (fun hHeld=>?_)
         clear hK K h1'
         try simp only [Act.put,sI1,sI2,sI3]
         refine wpAnyH_ready (rs:=[8]) (by kernel_rfl) (by simp) ?_
         refine AllReadyH.cons rfl (fun K hK=>?_) (AllReadyH.nil)
         ·obtain ⟨y0,z0⟩:=ro_cf hz_c.out 0 _ rfl;obtain ⟨y1,z1⟩:=ro_cf hz_c.out 1 _ rfl
          go_simp
          refine hK.out _ _ (⟨hide (ro_away2 (g':=g_c) hHeld.1.out (by omega)),hide (bl_set2 (g:=g_c) hHeld.2.out (by omega))⟩) (fun hHeld=>?_)
          clear hK K y0 z0 y1 z1
          replace hz_c:=hide (ro_set2' (x0:=.int .i64 a1) (x1:=.int .i64 a2) hz_c.out)
          replace hz_e:=hide (ro_away2 (g':=g_c) (a:=.int .i64 a1) (b:=.int .i64 a2) hz_e.out (by omega))
          generalize ((v17.setCell ⟨g_c,0,none⟩ (.int .i64 a1)).setCell ⟨g_c,1,none⟩ (.int .i64 a2))=v18 at *
          try simp only [Act.put,sI1,sI2,sI3]
          refine wpAnyH_ready (rs:=[9]) (by kernel_rfl) (by simp) ?_
          refine AllReadyH.cons rfl (fun K hK=>?_) (AllReadyH.nil)
          ·obtain ⟨y0,z0⟩:=ro_cf hz_e.out 0 _ rfl;obtain ⟨y1,z1⟩:=ro_cf hz_e.out 1 _ rfl
           go_simp
           refine hK.out _ _ (⟨hide (ro_away2 (g':=g_e) hHeld.1.out (by omega)),hide (bl_set2 (g:=g_e) hHeld.2.out (by omega))⟩) (fun hHeld=>?_)
           clear hK K y0 z0 y1 z1
           replace hz_e:=hide (ro_set2' (x0:=.int .i64 b1) (x1:=.int .i64 b2) hz_e.out)
           replace hz_c:=hide (ro_away2 (g':=g_e) (a:=.int .i64 b1) (b:=.int .i64 b2) hz_c.out (by omega))
           generalize ((v18.setCell ⟨g_e,0,none⟩ (.int .i64 b1)).setCell ⟨g_e,1,none⟩ (.int .i64 b2))=v19 at *
           try simp only [Act.put,sI1,sI2,sI3]
           refine wpAnyH_done (by kernel_rfl) ?_ _
           go_wp2_with fail
           go_meet
           exact ⟨_,_,rfl,rfl,hz_c.out,hz_e.out,by omega,by omega,hHeld.2.out⟩
      ·go_simp
       have lzv20:=hHeld.2.out.size
       have lbv20_0:=hHeld.1.out.lt
       have hz_e:=hide (Ro.new v1 #[.int .i64 0,.int .i64 0] 151)
       refine hK.out _ _ (⟨hide (hHeld.1.out.alloc _),hide (bl_alloc hHeld.2.out _)⟩) (fun hHeld=>?_)
       clear hK K
       generalize v1.heap.size=g_e at *
       generalize v1.alloc (.cells #[.int .i64 0,.int .i64 0] 151)=v20 at *
       try simp only [Act.put,sI1,sI2,sI3]
       refine wpAnyH_ready (rs:=[5,6]) (by kernel_rfl) (by simp) ?_
       refine AllReadyH.cons rfl (fun K hK=>?_) (AllReadyH.cons rfl (fun K hK=>?_) (AllReadyH.nil))
       ·go_simp
        refine (E2.out _ (hT.below hHeld.2.out)).mono ?_
        rintro e v21 ⟨rfl,h1'⟩
        replace hz_e:=hide (hz_e.out.below h1')
        refine hK.out _ _ (⟨hide (hHeld.1.out.below h1'),hide (bel_next hHeld.2.out h1')⟩) (fun hHeld=>?_)
        clear hK K h1'
        try simp only [Act.put,sI1,sI2,sI3]
        refine wpAnyH_ready (rs:=[6]) (by kernel_rfl) (by simp) ?_
        refine AllReadyH.cons rfl (fun K hK=>?_) (AllReadyH.nil)
        ·go_simp
         have lzv22:=hHeld.2.out.size
         have lbv22_0:=hHeld.1.out.lt
         have lov22_e:=hz_e.out.lt
         have hz_c:=hide (Ro.new v21 #[.int .i64 0,.int .i64 0] 151)
         replace hz_e:=hide (hz_e.out.alloc (.cells #[.int .i64 0,.int .i64 0] 151))
         refine hK.out _ _ (⟨hide (hHeld.1.out.alloc _),hide (bl_alloc hHeld.2.out _)⟩) (fun hHeld=>?_)
         clear hK K
         generalize v21.heap.size=g_c at *
         generalize v21.alloc (.cells #[.int .i64 0,.int .i64 0] 151)=v22 at *
         try simp only [Act.put,sI1,sI2,sI3]
         refine wpAnyH_ready (rs:=[8]) (by kernel_rfl) (by simp) ?_
         refine AllReadyH.cons rfl (fun K hK=>?_) (AllReadyH.nil)
         ·obtain ⟨y0,z0⟩:=ro_cf hz_c.out 0 _ rfl;obtain ⟨y1,z1⟩:=ro_cf hz_c.out 1 _ rfl
          go_simp
          refine hK.out _ _ (⟨hide (ro_away2 (g':=g_c) hHeld.1.out (by omega)),hide (bl_set2 (g:=g_c) hHeld.2.out (by omega))⟩) (fun hHeld=>?_)
          clear hK K y0 z0 y1 z1
          replace hz_c:=hide (ro_set2' (x0:=.int .i64 a1) (x1:=.int .i64 a2) hz_c.out)
          replace hz_e:=hide (ro_away2 (g':=g_c) (a:=.int .i64 a1) (b:=.int .i64 a2) hz_e.out (by omega))
          generalize ((v22.setCell ⟨g_c,0,none⟩ (.int .i64 a1)).setCell ⟨g_c,1,none⟩ (.int .i64 a2))=v23 at *
          try simp only [Act.put,sI1,sI2,sI3]
          refine wpAnyH_ready (rs:=[9]) (by kernel_rfl) (by simp) ?_
          refine AllReadyH.cons rfl (fun K hK=>?_) (AllReadyH.nil)
          ·obtain ⟨y0,z0⟩:=ro_cf hz_e.out 0 _ rfl;obtain ⟨y1,z1⟩:=ro_cf hz_e.out 1 _ rfl
           go_simp
           refine hK.out _ _ (⟨hide (ro_away2 (g':=g_e) hHeld.1.out (by omega)),hide (bl_set2 (g:=g_e) hHeld.2.out (by omega))⟩) (fun hHeld=>?_)
           clear hK K y0 z0 y1 z1
           replace hz_e:=hide (ro_set2' (x0:=.int .i64 b1) (x1:=.int .i64 b2) hz_e.out)
           replace hz_c:=hide (ro_away2 (g':=g_e) (a:=.int .i64 b1) (b:=.int .i64 b2) hz_c.out (by omega))
           generalize ((v23.setCell ⟨g_e,0,none⟩ (.int .i64 b1)).setCell ⟨g_e,1,none⟩ (.int .i64 b2))=v24 at *
           try simp only [Act.put,sI1,sI2,sI3]
           refine wpAnyH_done (by kernel_rfl) ?_ _
           go_wp2_with fail
           go_meet
           exact ⟨_,_,rfl,rfl,hz_c.out,hz_e.out,by omega,by omega,hHeld.2.out⟩
       ·go_simp
        have lzv25:=hHeld.2.out.size
        have lbv25_0:=hHeld.1.out.lt
        have lov25_e:=hz_e.out.lt
        have hz_c:=hide (Ro.new v20 #[.int .i64 0,.int .i64 0] 151)
        replace hz_e:=hide (hz_e.out.alloc (.cells #[.int .i64 0,.int .i64 0] 151))
        refine hK.out _ _ (⟨hide (hHeld.1.out.alloc _),hide (bl_alloc hHeld.2.out _)⟩) (fun hHeld=>?_)
        clear hK K
        generalize v20.heap.size=g_c at *
        generalize v20.alloc (.cells #[.int .i64 0,.int .i64 0] 151)=v25 at *
        try simp only [Act.put,sI1,sI2,sI3]
        refine wpAnyH_ready (rs:=[5]) (by kernel_rfl) (by simp) ?_
        refine AllReadyH.cons rfl (fun K hK=>?_) (AllReadyH.nil)
        ·go_simp
         refine (E2.out _ (hT.below hHeld.2.out)).mono ?_
         rintro e v26 ⟨rfl,h1'⟩
         replace hz_e:=hide (hz_e.out.below h1')
         replace hz_c:=hide (hz_c.out.below h1')
         refine hK.out _ _ (⟨hide (hHeld.1.out.below h1'),hide (bel_next hHeld.2.out h1')⟩) (fun hHeld=>?_)
         clear hK K h1'
         try simp only [Act.put,sI1,sI2,sI3]
         refine wpAnyH_ready (rs:=[8]) (by kernel_rfl) (by simp) ?_
         refine AllReadyH.cons rfl (fun K hK=>?_) (AllReadyH.nil)
         ·obtain ⟨y0,z0⟩:=ro_cf hz_c.out 0 _ rfl;obtain ⟨y1,z1⟩:=ro_cf hz_c.out 1 _ rfl
          go_simp
          refine hK.out _ _ (⟨hide (ro_away2 (g':=g_c) hHeld.1.out (by omega)),hide (bl_set2 (g:=g_c) hHeld.2.out (by omega))⟩) (fun hHeld=>?_)
          clear hK K y0 z0 y1 z1
          replace hz_c:=hide (ro_set2' (x0:=.int .i64 a1) (x1:=.int .i64 a2) hz_c.out)
          replace hz_e:=hide (ro_away2 (g':=g_c) (a:=.int .i64 a1) (b:=.int .i64 a2) hz_e.out (by omega))
          generalize ((v26.setCell ⟨g_c,0,none⟩ (.int .i64 a1)).setCell ⟨g_c,1,none⟩ (.int .i64 a2))=v27 at *
          try simp only [Act.put,sI1,sI2,sI3]
          refine wpAnyH_ready (rs:=[9]) (by kernel_rfl) (by simp) ?_
          refine AllReadyH.cons rfl (fun K hK=>?_) (AllReadyH.nil)
          ·obtain ⟨y0,z0⟩:=ro_cf hz_e.out 0 _ rfl;obtain ⟨y1,z1⟩:=ro_cf hz_e.out 1 _ rfl
           go_simp
           refine hK.out _ _ (⟨hide (ro_away2 (g':=g_e) hHeld.1.out (by omega)),hide (bl_set2 (g:=g_e) hHeld.2.out (by omega))⟩) (fun hHeld=>?_)
           clear hK K y0 z0 y1 z1
           replace hz_e:=hide (ro_set2' (x0:=.int .i64 b1) (x1:=.int .i64 b2) hz_e.out)
           replace hz_c:=hide (ro_away2 (g':=g_e) (a:=.int .i64 b1) (b:=.int .i64 b2) hz_c.out (by omega))
           generalize ((v27.setCell ⟨g_e,0,none⟩ (.int .i64 b1)).setCell ⟨g_e,1,none⟩ (.int .i64 b2))=v28 at *
           try simp only [Act.put,sI1,sI2,sI3]
           refine wpAnyH_done (by kernel_rfl) ?_ _
           go_wp2_with fail
           go_meet
           exact ⟨_,_,rfl,rfl,hz_c.out,hz_e.out,by omega,by omega,hHeld.2.out⟩
     ·go_simp
      have lzv29:=hHeld.2.out.size
      have lbv29_0:=hHeld.1.out.lt
      have hz_c:=hide (Ro.new u0 #[.int .i64 0,.int .i64 0] 151)
      refine hK.out _ _ (⟨hide (hHeld.1.out.alloc _),hide (bl_alloc hHeld.2.out _)⟩) (fun hHeld=>?_)
      clear hK K
      generalize u0.heap.size=g_c at *
      generalize u0.alloc (.cells #[.int .i64 0,.int .i64 0] 151)=v29 at *
      try simp only [Act.put,sI1,sI2,sI3]
      refine wpAnyH_ready (rs:=[2,7]) (by kernel_rfl) (by simp) ?_
      refine AllReadyH.cons rfl (fun K hK=>?_) (AllReadyH.cons rfl (fun K hK=>?_) (AllReadyH.nil))
      ·go_simp
       refine (E1.out _ (hT.below hHeld.2.out)).mono ?_
       rintro e v30 ⟨rfl,h1'⟩
       replace hz_c:=hide (hz_c.out.below h1')
       refine hK.out _ _ (⟨hide (hHeld.1.out.below h1'),hide (bel_next hHeld.2.out h1')⟩) (fun hHeld=>?_)
       clear hK K h1'
       try simp only [Act.put,sI1,sI2,sI3]
       refine wpAnyH_ready (rs:=[5,7]) (by kernel_rfl) (by simp) ?_
       refine AllReadyH.cons rfl (fun K hK=>?_) (AllReadyH.cons rfl (fun K hK=>?_) (AllReadyH.nil))
       ·go_simp
        refine (E2.out _ (hT.below hHeld.2.out)).mono ?_
        rintro e v31 ⟨rfl,h1'⟩
        replace hz_c:=hide (hz_c.out.below h1')
        refine hK.out _ _ (⟨hide (hHeld.1.out.below h1'),hide (bel_next hHeld.2.out h1')⟩) (fun hHeld=>?_)
        clear hK K h1'
        try simp only [Act.put,sI1,sI2,sI3]
        refine wpAnyH_ready (rs:=[7]) (by kernel_rfl) (by simp) ?_
        refine AllReadyH.cons rfl (fun K hK=>?_) (AllReadyH.nil)
        ·go_simp
         have lzv32:=hHeld.2.out.size
         have lbv32_0:=hHeld.1.out.lt
         have lov32_c:=hz_c.out.lt
         have hz_e:=hide (Ro.new v31 #[.int .i64 0,.int .i64 0] 151)
         replace hz_c:=hide (hz_c.out.alloc (.cells #[.int .i64 0,.int .i64 0] 151))
         refine hK.out _ _ (⟨hide (hHeld.1.out.alloc _),hide (bl_alloc hHeld.2.out _)⟩) (fun hHeld=>?_)
         clear hK K
         generalize v31.heap.size=g_e at *
         generalize v31.alloc (.cells #[.int .i64 0,.int .i64 0] 151)=v32 at *
         try simp only [Act.put,sI1,sI2,sI3]
         refine wpAnyH_ready (rs:=[8]) (by kernel_rfl) (by simp) ?_
         refine AllReadyH.cons rfl (fun K hK=>?_) (AllReadyH.nil)
         ·obtain ⟨y0,z0⟩:=ro_cf hz_c.out 0 _ rfl;obtain ⟨y1,z1⟩:=ro_cf hz_c.out 1 _ rfl
          go_simp
          refine hK.out _ _ (⟨hide (ro_away2 (g':=g_c) hHeld.1.out (by omega)),hide (bl_set2 (g:=g_c) hHeld.2.out (by omega))⟩) (fun hHeld=>?_)
          clear hK K y0 z0 y1 z1
          replace hz_c:=hide (ro_set2' (x0:=.int .i64 a1) (x1:=.int .i64 a2) hz_c.out)
          replace hz_e:=hide (ro_away2 (g':=g_c) (a:=.int .i64 a1) (b:=.int .i64 a2) hz_e.out (by omega))
          generalize ((v32.setCell ⟨g_c,0,none⟩ (.int .i64 a1)).setCell ⟨g_c,1,none⟩ (.int .i64 a2))=v33 at *
          try simp only [Act.put,sI1,sI2,sI3]
          refine wpAnyH_ready (rs:=[9]) (by kernel_rfl) (by simp) ?_
          refine AllReadyH.cons rfl (fun K hK=>?_) (AllReadyH.nil)
          ·obtain ⟨y0,z0⟩:=ro_cf hz_e.out 0 _ rfl;obtain ⟨y1,z1⟩:=ro_cf hz_e.out 1 _ rfl
           go_simp
           refine hK.out _ _ (⟨hide (ro_away2 (g':=g_e) hHeld.1.out (by omega)),hide (bl_set2 (g:=g_e) hHeld.2.out (by omega))⟩) (fun hHeld=>?_)
           clear hK K y0 z0 y1 z1
           replace hz_e:=hide (ro_set2' (x0:=.int .i64 b1) (x1:=.int .i64 b2) hz_e.out)
           replace hz_c:=hide (ro_away2 (g':=g_e) (a:=.int .i64 b1) (b:=.int .i64 b2) hz_c.out (by omega))
           generalize ((v33.setCell ⟨g_e,0,none⟩ (.int .i64 b1)).setCell ⟨g_e,1,none⟩ (.int .i64 b2))=v34 at *
           try simp only [Act.put,sI1,sI2,sI3]
           refine wpAnyH_done (by kernel_rfl) ?_ _
           go_wp2_with fail
           go_meet
           exact ⟨_,_,rfl,rfl,hz_c.out,hz_e.out,by omega,by omega,hHeld.2.out⟩
       ·go_simp
        have lzv35:=hHeld.2.out.size
        have lbv35_0:=hHeld.1.out.lt
        have lov35_c:=hz_c.out.lt
        have hz_e:=hide (Ro.new v30 #[.int .i64 0,.int .i64 0] 151)
        replace hz_c:=hide (hz_c.out.alloc (.cells #[.int .i64 0,.int .i64 0] 151))
        refine hK.out _ _ (⟨hide (hHeld.1.out.alloc _),hide (bl_alloc hHeld.2.out _)⟩) (fun hHeld=>?_)
        clear hK K
        generalize v30.heap.size=g_e at *
        generalize v30.alloc (.cells #[.int .i64 0,.int .i64 0] 151)=v35 at *
        try simp only [Act.put,sI1,sI2,sI3]
        refine wpAnyH_ready (rs:=[5]) (by kernel_rfl) (by simp) ?_
        refine AllReadyH.cons rfl (fun K hK=>?_) (AllReadyH.nil)
        ·go_simp
         refine (E2.out _ (hT.below hHeld.2.out)).mono ?_
         rintro e v36 ⟨rfl,h1'⟩
         replace hz_c:=hide (hz_c.out.below h1')
         replace hz_e:=hide (hz_e.out.below h1')
         refine hK.out _ _ (⟨hide (hHeld.1.out.below h1'),hide (bel_next hHeld.2.out h1')⟩) (fun hHeld=>?_)
         clear hK K h1'
         try simp only [Act.put,sI1,sI2,sI3]
         refine wpAnyH_ready (rs:=[8]) (by kernel_rfl) (by simp) ?_
         refine AllReadyH.cons rfl (fun K hK=>?_) (AllReadyH.nil)
         ·obtain ⟨y0,z0⟩:=ro_cf hz_c.out 0 _ rfl;obtain ⟨y1,z1⟩:=ro_cf hz_c.out 1 _ rfl
          go_simp
          refine hK.out _ _ (⟨hide (ro_away2 (g':=g_c) hHeld.1.out (by omega)),hide (bl_set2 (g:=g_c) hHeld.2.out (by omega))⟩) (fun hHeld=>?_)
          clear hK K y0 z0 y1 z1
          replace hz_c:=hide (ro_set2' (x0:=.int .i64 a1) (x1:=.int .i64 a2) hz_c.out)
          replace hz_e:=hide (ro_away2 (g':=g_c) (a:=.int .i64 a1) (b:=.int .i64 a2) hz_e.out (by omega))
          generalize ((v36.setCell ⟨g_c,0,none⟩ (.int .i64 a1)).setCell ⟨g_c,1,none⟩ (.int .i64 a2))=v37 at *
          try simp only [Act.put,sI1,sI2,sI3]
          refine wpAnyH_ready (rs:=[9]) (by kernel_rfl) (by simp) ?_
          refine AllReadyH.cons rfl (fun K hK=>?_) (AllReadyH.nil)
          ·obtain ⟨y0,z0⟩:=ro_cf hz_e.out 0 _ rfl;obtain ⟨y1,z1⟩:=ro_cf hz_e.out 1 _ rfl
           go_simp
           refine hK.out _ _ (⟨hide (ro_away2 (g':=g_e) hHeld.1.out (by omega)),hide (bl_set2 (g:=g_e) hHeld.2.out (by omega))⟩) (fun hHeld=>?_)
           clear hK K y0 z0 y1 z1
           replace hz_e:=hide (ro_set2' (x0:=.int .i64 b1) (x1:=.int .i64 b2) hz_e.out)
           replace hz_c:=hide (ro_away2 (g':=g_e) (a:=.int .i64 b1) (b:=.int .i64 b2) hz_c.out (by omega))
           generalize ((v37.setCell ⟨g_e,0,none⟩ (.int .i64 b1)).setCell ⟨g_e,1,none⟩ (.int .i64 b2))=v38 at *
           try simp only [Act.put,sI1,sI2,sI3]
           refine wpAnyH_done (by kernel_rfl) ?_ _
           go_wp2_with fail
           go_meet
           exact ⟨_,_,rfl,rfl,hz_c.out,hz_e.out,by omega,by omega,hHeld.2.out⟩
      ·go_simp
       have lzv39:=hHeld.2.out.size
       have lbv39_0:=hHeld.1.out.lt
       have lov39_c:=hz_c.out.lt
       have hz_e:=hide (Ro.new v29 #[.int .i64 0,.int .i64 0] 151)
       replace hz_c:=hide (hz_c.out.alloc (.cells #[.int .i64 0,.int .i64 0] 151))
       refine hK.out _ _ (⟨hide (hHeld.1.out.alloc _),hide (bl_alloc hHeld.2.out _)⟩) (fun hHeld=>?_)
       clear hK K
       generalize v29.heap.size=g_e at *
       generalize v29.alloc (.cells #[.int .i64 0,.int .i64 0] 151)=v39 at *
       try simp only [Act.put,sI1,sI2,sI3]
       refine wpAnyH_ready (rs:=[2]) (by kernel_rfl) (by simp) ?_
       refine AllReadyH.cons rfl (fun K hK=>?_) (AllReadyH.nil)
       ·go_simp
        refine (E1.out _ (hT.below hHeld.2.out)).mono ?_
        rintro e v40 ⟨rfl,h1'⟩
        replace hz_c:=hide (hz_c.out.below h1')
        replace hz_e:=hide (hz_e.out.below h1')
        refine hK.out _ _ (⟨hide (hHeld.1.out.below h1'),hide (bel_next hHeld.2.out h1')⟩) (fun hHeld=>?_)
        clear hK K h1'
        try simp only [Act.put,sI1,sI2,sI3]
        refine wpAnyH_ready (rs:=[5]) (by kernel_rfl) (by simp) ?_
        refine AllReadyH.cons rfl (fun K hK=>?_) (AllReadyH.nil)
        ·go_simp
         refine (E2.out _ (hT.below hHeld.2.out)).mono ?_
         rintro e v41 ⟨rfl,h1'⟩
         replace hz_c:=hide (hz_c.out.below h1')
         replace hz_e:=hide (hz_e.out.below h1')
         refine hK.out _ _ (⟨hide (hHeld.1.out.below h1'),hide (bel_next hHeld.2.out h1')⟩) (fun hHeld=>?_)
         clear hK K h1'
         try simp only [Act.put,sI1,sI2,sI3]
         refine wpAnyH_ready (rs:=[8]) (by kernel_rfl) (by simp) ?_
         refine AllReadyH.cons rfl (fun K hK=>?_) (AllReadyH.nil)
         ·obtain ⟨y0,z0⟩:=ro_cf hz_c.out 0 _ rfl;obtain ⟨y1,z1⟩:=ro_cf hz_c.out 1 _ rfl
          go_simp
          refine hK.out _ _ (⟨hide (ro_away2 (g':=g_c) hHeld.1.out (by omega)),hide (bl_set2 (g:=g_c) hHeld.2.out (by omega))⟩) (fun hHeld=>?_)
          clear hK K y0 z0 y1 z1
          replace hz_c:=hide (ro_set2' (x0:=.int .i64 a1) (x1:=.int .i64 a2) hz_c.out)
          replace hz_e:=hide (ro_away2 (g':=g_c) (a:=.int .i64 a1) (b:=.int .i64 a2) hz_e.out (by omega))
          generalize ((v41.setCell ⟨g_c,0,none⟩ (.int .i64 a1)).setCell ⟨g_c,1,none⟩ (.int .i64 a2))=v42 at *
          try simp only [Act.put,sI1,sI2,sI3]
          refine wpAnyH_ready (rs:=[9]) (by kernel_rfl) (by simp) ?_
          refine AllReadyH.cons rfl (fun K hK=>?_) (AllReadyH.nil)
          ·obtain ⟨y0,z0⟩:=ro_cf hz_e.out 0 _ rfl;obtain ⟨y1,z1⟩:=ro_cf hz_e.out 1 _ rfl
           go_simp
           refine hK.out _ _ (⟨hide (ro_away2 (g':=g_e) hHeld.1.out (by omega)),hide (bl_set2 (g:=g_e) hHeld.2.out (by omega))⟩) (fun hHeld=>?_)
           clear hK K y0 z0 y1 z1
           replace hz_e:=hide (ro_set2' (x0:=.int .i64 b1) (x1:=.int .i64 b2) hz_e.out)
           replace hz_c:=hide (ro_away2 (g':=g_e) (a:=.int .i64 b1) (b:=.int .i64 b2) hz_c.out (by omega))
           generalize ((v42.setCell ⟨g_e,0,none⟩ (.int .i64 b1)).setCell ⟨g_e,1,none⟩ (.int .i64 b2))=v43 at *
           try simp only [Act.put,sI1,sI2,sI3]
           refine wpAnyH_done (by kernel_rfl) ?_ _
           go_wp2_with fail
           go_meet
           exact ⟨_,_,rfl,rfl,hz_c.out,hz_e.out,by omega,by omega,hHeld.2.out⟩
     ·go_simp
      have lzv44:=hHeld.2.out.size
      have lbv44_0:=hHeld.1.out.lt
      have hz_e:=hide (Ro.new u0 #[.int .i64 0,.int .i64 0] 151)
      refine hK.out _ _ (⟨hide (hHeld.1.out.alloc _),hide (bl_alloc hHeld.2.out _)⟩) (fun hHeld=>?_)
      clear hK K
      generalize u0.heap.size=g_e at *
      generalize u0.alloc (.cells #[.int .i64 0,.int .i64 0] 151)=v44 at *
      try simp only [Act.put,sI1,sI2,sI3]
      refine wpAnyH_ready (rs:=[2,6]) (by kernel_rfl) (by simp) ?_
      refine AllReadyH.cons rfl (fun K hK=>?_) (AllReadyH.cons rfl (fun K hK=>?_) (AllReadyH.nil))
      ·go_simp
       refine (E1.out _ (hT.below hHeld.2.out)).mono ?_
       rintro e v45 ⟨rfl,h1'⟩
       replace hz_e:=hide (hz_e.out.below h1')
       refine hK.out _ _ (⟨hide (hHeld.1.out.below h1'),hide (bel_next hHeld.2.out h1')⟩) (fun hHeld=>?_)
       clear hK K h1'
       try simp only [Act.put,sI1,sI2,sI3]
       refine wpAnyH_ready (rs:=[5,6]) (by kernel_rfl) (by simp) ?_
       refine AllReadyH.cons rfl (fun K hK=>?_) (AllReadyH.cons rfl (fun K hK=>?_) (AllReadyH.nil))
       ·go_simp
        refine (E2.out _ (hT.below hHeld.2.out)).mono ?_
        rintro e v46 ⟨rfl,h1'⟩
        replace hz_e:=hide (hz_e.out.below h1')
        refine hK.out _ _ (⟨hide (hHeld.1.out.below h1'),hide (bel_next hHeld.2.out h1')⟩) (fun hHeld=>?_)
        clear hK K h1'
        try simp only [Act.put,sI1,sI2,sI3]
        refine wpAnyH_ready (rs:=[6]) (by kernel_rfl) (by simp) ?_
        refine AllReadyH.cons rfl (fun K hK=>?_) (AllReadyH.nil)
        ·go_simp
         have lzv47:=hHeld.2.out.size
         have lbv47_0:=hHeld.1.out.lt
         have lov47_e:=hz_e.out.lt
         have hz_c:=hide (Ro.new v46 #[.int .i64 0,.int .i64 0] 151)
         replace hz_e:=hide (hz_e.out.alloc (.cells #[.int .i64 0,.int .i64 0] 151))
         refine hK.out _ _ (⟨hide (hHeld.1.out.alloc _),hide (bl_alloc hHeld.2.out _)⟩) (fun hHeld=>?_)
         clear hK K
         generalize v46.heap.size=g_c at *
         generalize v46.alloc (.cells #[.int .i64 0,.int .i64 0] 151)=v47 at *
         try simp only [Act.put,sI1,sI2,sI3]
         refine wpAnyH_ready (rs:=[8]) (by kernel_rfl) (by simp) ?_
         refine AllReadyH.cons rfl (fun K hK=>?_) (AllReadyH.nil)
         ·obtain ⟨y0,z0⟩:=ro_cf hz_c.out 0 _ rfl;obtain ⟨y1,z1⟩:=ro_cf hz_c.out 1 _ rfl
          go_simp
          refine hK.out _ _ (⟨hide (ro_away2 (g':=g_c) hHeld.1.out (by omega)),hide (bl_set2 (g:=g_c) hHeld.2.out (by omega))⟩) (fun hHeld=>?_)
          clear hK K y0 z0 y1 z1
          replace hz_c:=hide (ro_set2' (x0:=.int .i64 a1) (x1:=.int .i64 a2) hz_c.out)
          replace hz_e:=hide (ro_away2 (g':=g_c) (a:=.int .i64 a1) (b:=.int .i64 a2) hz_e.out (by omega))
          generalize ((v47.setCell ⟨g_c,0,none⟩ (.int .i64 a1)).setCell ⟨g_c,1,none⟩ (.int .i64 a2))=v48 at *
          try simp only [Act.put,sI1,sI2,sI3]
          refine wpAnyH_ready (rs:=[9]) (by kernel_rfl) (by simp) ?_
          refine AllReadyH.cons rfl (fun K hK=>?_) (AllReadyH.nil)
          ·obtain ⟨y0,z0⟩:=ro_cf hz_e.out 0 _ rfl;obtain ⟨y1,z1⟩:=ro_cf hz_e.out 1 _ rfl
           go_simp
           refine hK.out _ _ (⟨hide (ro_away2 (g':=g_e) hHeld.1.out (by omega)),hide (bl_set2 (g:=g_e) hHeld.2.out (by omega))⟩) (fun hHeld=>?_)
           clear hK K y0 z0 y1 z1
           replace hz_e:=hide (ro_set2' (x0:=.int .i64 b1) (x1:=.int .i64 b2) hz_e.out)
           replace hz_c:=hide (ro_away2 (g':=g_e) (a:=.int .i64 b1) (b:=.int .i64 b2) hz_c.out (by omega))
           generalize ((v48.setCell ⟨g_e,0,none⟩ (.int .i64 b1)).setCell ⟨g_e,1,none⟩ (.int .i64 b2))=v49 at *
           try simp only [Act.put,sI1,sI2,sI3]
           refine wpAnyH_done (by kernel_rfl) ?_ _
           go_wp2_with fail
           go_meet
           exact ⟨_,_,rfl,rfl,hz_c.out,hz_e.out,by omega,by omega,hHeld.2.out⟩
       ·go_simp
        have lzv50:=hHeld.2.out.size
        have lbv50_0:=hHeld.1.out.lt
        have lov50_e:=hz_e.out.lt
        have hz_c:=hide (Ro.new v45 #[.int .i64 0,.int .i64 0] 151)
        replace hz_e:=hide (hz_e.out.alloc (.cells #[.int .i64 0,.int .i64 0] 151))
        refine hK.out _ _ (⟨hide (hHeld.1.out.alloc _),hide (bl_alloc hHeld.2.out _)⟩) (fun hHeld=>?_)
        clear hK K
        generalize v45.heap.size=g_c at *
        generalize v45.alloc (.cells #[.int .i64 0,.int .i64 0] 151)=v50 at *
        try simp only [Act.put,sI1,sI2,sI3]
        refine wpAnyH_ready (rs:=[5]) (by kernel_rfl) (by simp) ?_
        refine AllReadyH.cons rfl (fun K hK=>?_) (AllReadyH.nil)
        ·go_simp
         refine (E2.out _ (hT.below hHeld.2.out)).mono ?_
         rintro e v51 ⟨rfl,h1'⟩
         replace hz_e:=hide (hz_e.out.below h1')
         replace hz_c:=hide (hz_c.out.below h1')
         refine hK.out _ _ (⟨hide (hHeld.1.out.below h1'),hide (bel_next hHeld.2.out h1')⟩) (fun hHeld=>?_)
         clear hK K h1'
         try simp only [Act.put,sI1,sI2,sI3]
         refine wpAnyH_ready (rs:=[8]) (by kernel_rfl) (by simp) ?_
         refine AllReadyH.cons rfl (fun K hK=>?_) (AllReadyH.nil)
         ·obtain ⟨y0,z0⟩:=ro_cf hz_c.out 0 _ rfl;obtain ⟨y1,z1⟩:=ro_cf hz_c.out 1 _ rfl
          go_simp
          refine hK.out _ _ (⟨hide (ro_away2 (g':=g_c) hHeld.1.out (by omega)),hide (bl_set2 (g:=g_c) hHeld.2.out (by omega))⟩) (fun hHeld=>?_)
          clear hK K y0 z0 y1 z1
          replace hz_c:=hide (ro_set2' (x0:=.int .i64 a1) (x1:=.int .i64 a2) hz_c.out)
          replace hz_e:=hide (ro_away2 (g':=g_c) (a:=.int .i64 a1) (b:=.int .i64 a2) hz_e.out (by omega))
          generalize ((v51.setCell ⟨g_c,0,none⟩ (.int .i64 a1)).setCell ⟨g_c,1,none⟩ (.int .i64 a2))=v52 at *
          try simp only [Act.put,sI1,sI2,sI3]
          refine wpAnyH_ready (rs:=[9]) (by kernel_rfl) (by simp) ?_
          refine AllReadyH.cons rfl (fun K hK=>?_) (AllReadyH.nil)
          ·obtain ⟨y0,z0⟩:=ro_cf hz_e.out 0 _ rfl;obtain ⟨y1,z1⟩:=ro_cf hz_e.out 1 _ rfl
           go_simp
           refine hK.out _ _ (⟨hide (ro_away2 (g':=g_e) hHeld.1.out (by omega)),hide (bl_set2 (g:=g_e) hHeld.2.out (by omega))⟩) (fun hHeld=>?_)
           clear hK K y0 z0 y1 z1
           replace hz_e:=hide (ro_set2' (x0:=.int .i64 b1) (x1:=.int .i64 b2) hz_e.out)
           replace hz_c:=hide (ro_away2 (g':=g_e) (a:=.int .i64 b1) (b:=.int .i64 b2) hz_c.out (by omega))
           generalize ((v52.setCell ⟨g_e,0,none⟩ (.int .i64 b1)).setCell ⟨g_e,1,none⟩ (.int .i64 b2))=v53 at *
           try simp only [Act.put,sI1,sI2,sI3]
           refine wpAnyH_done (by kernel_rfl) ?_ _
           go_wp2_with fail
           go_meet
           exact ⟨_,_,rfl,rfl,hz_c.out,hz_e.out,by omega,by omega,hHeld.2.out⟩
      ·go_simp
       have lzv54:=hHeld.2.out.size
       have lbv54_0:=hHeld.1.out.lt
       have lov54_e:=hz_e.out.lt
       have hz_c:=hide (Ro.new v44 #[.int .i64 0,.int .i64 0] 151)
       replace hz_e:=hide (hz_e.out.alloc (.cells #[.int .i64 0,.int .i64 0] 151))
       refine hK.out _ _ (⟨hide (hHeld.1.out.alloc _),hide (bl_alloc hHeld.2.out _)⟩) (fun hHeld=>?_)
       clear hK K
       generalize v44.heap.size=g_c at *
       generalize v44.alloc (.cells #[.int .i64 0,.int .i64 0] 151)=v54 at *
       try simp only [Act.put,sI1,sI2,sI3]
       refine wpAnyH_ready (rs:=[2]) (by kernel_rfl) (by simp) ?_
       refine AllReadyH.cons rfl (fun K hK=>?_) (AllReadyH.nil)
       ·go_simp
        refine (E1.out _ (hT.below hHeld.2.out)).mono ?_
        rintro e v55 ⟨rfl,h1'⟩
        replace hz_e:=hide (hz_e.out.below h1')
        replace hz_c:=hide (hz_c.out.below h1')
        refine hK.out _ _ (⟨hide (hHeld.1.out.below h1'),hide (bel_next hHeld.2.out h1')⟩) (fun hHeld=>?_)
        clear hK K h1'
        try simp only [Act.put,sI1,sI2,sI3]
        refine wpAnyH_ready (rs:=[5]) (by kernel_rfl) (by simp) ?_
        refine AllReadyH.cons rfl (fun K hK=>?_) (AllReadyH.nil)
        ·go_simp
         refine (E2.out _ (hT.below hHeld.2.out)).mono ?_
         rintro e v56 ⟨rfl,h1'⟩
         replace hz_e:=hide (hz_e.out.below h1')
         replace hz_c:=hide (hz_c.out.below h1')
         refine hK.out _ _ (⟨hide (hHeld.1.out.below h1'),hide (bel_next hHeld.2.out h1')⟩) (fun hHeld=>?_)
         clear hK K h1'
         try simp only [Act.put,sI1,sI2,sI3]
         refine wpAnyH_ready (rs:=[8]) (by kernel_rfl) (by simp) ?_
         refine AllReadyH.cons rfl (fun K hK=>?_) (AllReadyH.nil)
         ·obtain ⟨y0,z0⟩:=ro_cf hz_c.out 0 _ rfl;obtain ⟨y1,z1⟩:=ro_cf hz_c.out 1 _ rfl
          go_simp
          refine hK.out _ _ (⟨hide (ro_away2 (g':=g_c) hHeld.1.out (by omega)),hide (bl_set2 (g:=g_c) hHeld.2.out (by omega))⟩) (fun hHeld=>?_)
          clear hK K y0 z0 y1 z1
          replace hz_c:=hide (ro_set2' (x0:=.int .i64 a1) (x1:=.int .i64 a2) hz_c.out)
          replace hz_e:=hide (ro_away2 (g':=g_c) (a:=.int .i64 a1) (b:=.int .i64 a2) hz_e.out (by omega))
          generalize ((v56.setCell ⟨g_c,0,none⟩ (.int .i64 a1)).setCell ⟨g_c,1,none⟩ (.int .i64 a2))=v57 at *
          try simp only [Act.put,sI1,sI2,sI3]
          refine wpAnyH_ready (rs:=[9]) (by kernel_rfl) (by simp) ?_
          refine AllReadyH.cons rfl (fun K hK=>?_) (AllReadyH.nil)
          ·obtain ⟨y0,z0⟩:=ro_cf hz_e.out 0 _ rfl;obtain ⟨y1,z1⟩:=ro_cf hz_e.out 1 _ rfl
           go_simp
           refine hK.out _ _ (⟨hide (ro_away2 (g':=g_e) hHeld.1.out (by omega)),hide (bl_set2 (g:=g_e) hHeld.2.out (by omega))⟩) (fun hHeld=>?_)
           clear hK K y0 z0 y1 z1
           replace hz_e:=hide (ro_set2' (x0:=.int .i64 b1) (x1:=.int .i64 b2) hz_e.out)
           replace hz_c:=hide (ro_away2 (g':=g_e) (a:=.int .i64 b1) (b:=.int .i64 b2) hz_c.out (by omega))
           generalize ((v57.setCell ⟨g_e,0,none⟩ (.int .i64 b1)).setCell ⟨g_e,1,none⟩ (.int .i64 b2))=v58 at *
           try simp only [Act.put,sI1,sI2,sI3]
           refine wpAnyH_done (by kernel_rfl) ?_ _
           go_wp2_with fail
           go_meet
           exact ⟨_,_,rfl,rfl,hz_c.out,hz_e.out,by omega,by omega,hHeld.2.out⟩
    obtain ⟨g7,g8,rfl,rfl,h7,h8,n7,n78,hb⟩:=hcut
    rename World=>w3
    obtain ⟨y0,_⟩:=ro_cf h7 0 (.int .i64 a1) rfl
    obtain ⟨y1,_⟩:=ro_cf h7 1 (.int .i64 a2) rfl
    obtain ⟨y2,_⟩:=ro_cf h8 0 (.int .i64 b1) rfl
    obtain ⟨y3,_⟩:=ro_cf h8 1 (.int .i64 b2) rfl
    replace h7:=hide h7
    replace h8:=hide h8
    replace hb:=hide hb
    go_upto_region 3 with fail
    go_wp2_with fail
    refine (C.out _).mono ?_
    rintro e w4 ⟨rfl,h5⟩
    clear y0 y1 y2 y3
    replace h7:=hide (h7.out.below h5)
    replace h8:=hide (h8.out.below h5)
    replace hb:=hide (bel_next hb.out h5)
    clear h5
    rcases hcmp.out with hc | hc | hc
    ·obtain ⟨hc,rfl⟩:=hc
     obtain ⟨y0,z0⟩:=ro_cf h7.out 0 (.int .i64 a1) rfl
     obtain ⟨y1,z1⟩:=ro_cf h7.out 1 (.int .i64 a2) rfl
     go_upto_region 10 with fail
     have hJ4:=hJ _ _ _ none hjj.out (grown_of hb.out) (fun r e=>by cases e)
     obtain ⟨fn,tmps,assign,body,hy,hRd⟩:=hYY.out pre (chI st so ys,true) w4 hJ4 hlen
     dsimp only [encC] at hy
     rw [va.out] at hy
     refine (wpIn_wide (n:=n)).1 ?_
     gi_wp2
     refine ⟨fun h=>by simp [Fence.wide] at h,hRd.mono ?_⟩
     rintro e W3 (⟨rfl,hJ3,hk⟩ | ⟨rfl,hJx3⟩)
     ·have hL3:Ro W3 gL #[.int .i64 l] 3:=hk.2.1.trans (hL.out.below hb.out)
      have hR3:Ro W3 gR cs 83:=hk.2.2.trans (hR.out.below hb.out)
      have hT3:=tb_k (hT'.out.below hb.out) hk.1 hn0
      gi_wp2
      go_wp2
      go_roundw
      case rel=>exact ⟨pre++[(chI st so ys,true)],ys+1,ye,rfl,rfl,.a hm'.out c1 c2 hc,hJ3,hL3,hR3,hT3⟩
      case measure=>simp [intOf];omega
     ·gi_wp2
      go_wp2
      refine bodyPost_ret (results_none rfl _ _ _) rfl ?_
      exact ⟨⟨_,rfl⟩,.inr ⟨pre++[(chI st so ys,true)],⟨_,_,.a hm'.out c1 c2 hc⟩,hJx3⟩⟩
    ·obtain ⟨hc,rfl⟩:=hc
     obtain ⟨y0,z0⟩:=ro_cf h7.out 0 (.int .i64 a1) rfl
     obtain ⟨y1,z1⟩:=ro_cf h7.out 1 (.int .i64 a2) rfl
     go_upto_region 10 with fail
     have hJ4:=hJ _ _ _ none hjj.out (grown_of hb.out) (fun r e=>by cases e)
     obtain ⟨fn,tmps,assign,body,hy,hRd⟩:=hYY.out pre (chI st so ys,true) w4 hJ4 hlen
     dsimp only [encC] at hy
     rw [va.out] at hy
     refine (wpIn_wide (n:=n)).1 ?_
     gi_wp2
     refine ⟨fun h=>by simp [Fence.wide] at h,hRd.mono ?_⟩
     rintro e W3 (⟨rfl,hJ3,hk⟩ | ⟨rfl,hJx3⟩)
     ·have hL3:Ro W3 gL #[.int .i64 l] 3:=hk.2.1.trans (hL.out.below hb.out)
      have hR3:Ro W3 gR cs 83:=hk.2.2.trans (hR.out.below hb.out)
      have hT3:=tb_k (hT'.out.below hb.out) hk.1 hn0
      gi_wp2
      go_wp2
      go_roundw
      case rel=>exact ⟨pre++[(chI st so ys,true)],ys+1,ye+1,rfl,rfl,.ab hm'.out c1 c2 hc,hJ3,hL3,hR3,hT3⟩
      case measure=>simp [intOf];omega
     ·gi_wp2
      go_wp2
      refine bodyPost_ret (results_none rfl _ _ _) rfl ?_
      exact ⟨⟨_,rfl⟩,.inr ⟨pre++[(chI st so ys,true)],⟨_,_,.ab hm'.out c1 c2 hc⟩,hJx3⟩⟩
    ·obtain ⟨hc,rfl⟩:=hc
     obtain ⟨y0,z0⟩:=ro_cf h7.out 0 (.int .i64 a1) rfl
     obtain ⟨y1,z1⟩:=ro_cf h7.out 1 (.int .i64 a2) rfl
     obtain ⟨y2,z2⟩:=ro_cf h8.out 0 (.int .i64 b1) rfl
     obtain ⟨y3,z3⟩:=ro_cf h8.out 1 (.int .i64 b2) rfl
     go_upto_region 10 with fail
     have h7n:=ro_set2 (a:=.int .i64 b1) (b:=.int .i64 b2) h7.out
     replace hb:=hide (bl_set2 (a:=.int .i64 b1) (b:=.int .i64 b2) hb.out (g:=g7) n7)
     clear y0 z0 y1 z1 y2 z2 y3 z3 h7 h8
     generalize (w4.setCell ⟨g7,0,none⟩ (.int .i64 b1)).setCell ⟨g7,1,none⟩ (.int .i64 b2)=w5 at *
     obtain ⟨y0,z0⟩:=ro_cf h7n 0 (.int .i64 b1) rfl
     obtain ⟨y1,z1⟩:=ro_cf h7n 1 (.int .i64 b2) rfl
     have hJ4:=hJ _ _ _ none hjj.out (grown_of hb.out) (fun r e=>by cases e)
     obtain ⟨fn,tmps,assign,body,hy,hRd⟩:=hYY.out pre (chI en dof ye,false) w5 hJ4 hlen
     dsimp only [encC] at hy
     rw [vb.out] at hy
     refine (wpIn_wide (n:=n)).1 ?_
     gi_wp2
     refine ⟨fun h=>by simp [Fence.wide] at h,hRd.mono ?_⟩
     rintro e W3 (⟨rfl,hJ3,hk⟩ | ⟨rfl,hJx3⟩)
     ·have hL3:Ro W3 gL #[.int .i64 l] 3:=hk.2.1.trans (hL.out.below hb.out)
      have hR3:Ro W3 gR cs 83:=hk.2.2.trans (hR.out.below hb.out)
      have hT3:=tb_k (hT'.out.below hb.out) hk.1 hn0
      gi_wp2
      go_wp2
      go_roundw
      case rel=>exact ⟨pre++[(chI en dof ye,false)],ys,ye+1,rfl,rfl,.b hm'.out c1 c2 hc,hJ3,hL3,hR3,hT3⟩
      case measure=>simp [intOf];omega
     ·gi_wp2
      go_wp2
      refine bodyPost_ret (results_none rfl _ _ _) rfl ?_
      exact ⟨⟨_,rfl⟩,.inr ⟨pre++[(chI en dof ye,false)],⟨_,_,.b hm'.out c1 c2 hc⟩,hJx3⟩⟩
   ·go_wp2
    go_end0
    exact ⟨⟨_,rfl⟩,.inl ⟨pre,⟨ys,ye,hm,.inr (by omega)⟩,hj⟩⟩
  ·go_wp2
   go_end0
   exact ⟨⟨_,rfl⟩,.inl ⟨pre,⟨ys,ye,hm,.inl (by omega)⟩,hj⟩⟩
end te_
end Go.Proofs.YtpapfpcehlhgeaaGreatDoor
