/-
  Texts of mine in one file: ZfE, ZfS, TzA. Their conditions stand in the theorems.
-/
import Derived.Test.YtpapfpcehlhgeaaGreatDoorE21
import Derived.Test.YtpapfpcehlhgeaaGreatDoorE04
import Derived.Laws.EntriesVeiled
import Derived.Deep.RegionHeld3
import Derived.Deep.DeepCutAuto
import Derived.Test.YtpapfpcehlhgeaaGreatDoorE17
import Derived.Test.YtpapfpcehlhgeaaGreatDoorE02
import Derived.Lib.ConvBytes
import Derived.Test.YtpapfpcehlhgeaaGreatDoorE03
namespace Go.Proofs.YtpapfpcehlhgeaaGreatDoor
set_option linter.unusedVariables false
set_option linter.unusedSimpArgs false
set_option maxRecDepth 100000
set_option maxHeartbeats 16000000
open Go.ChangeShapes Go.WideShapes Go.ChangeAt Go.RowKit
def fsS (g:Nat):List Value:=[.func (.func 35) #[.pointer (some ⟨g,0,none⟩)] #[]]
def fsL (g:Nat):List Value:=[.func (.func 36) #[.pointer (some ⟨g,0,none⟩)] #[],.func (.func 37) #[.pointer (some ⟨g,0,none⟩)] #[],.func (.func 38) #[.pointer (some ⟨g,0,none⟩)] #[],.func (.func 39) #[.pointer (some ⟨g,0,none⟩)] #[],.func (.func 40) #[.pointer (some ⟨g,0,none⟩)] #[],.func (.func 38) #[.pointer (some ⟨g,0,none⟩)] #[],.func (.func 35) #[.pointer (some ⟨g,0,none⟩)] #[]]
def fs1 (g:Nat):List Value:=[.func (.func 20) #[.pointer (some ⟨g,0,none⟩)] #[],.func (.func 21) #[.pointer (some ⟨g,0,none⟩)] #[]]
structure ParR (w':World) (B:Nat) (xs:List Int) (v:Int) (S S':BkS) (f:ByteArray) (Q Q':Bk) (e a:Int):Prop where
 r:(parF xs=.ok (v,Q,Q',fB (byt f))∧e=0∧a=0)∨(parF xs=.error (e,a)∧e≠0∧v=0∧Q=Bk.zero∧Q'=Bk.zero∧byt f=[])
 a:OwBk w' B S Q
 b:OwBk w' B S' Q'
 f:f.size≤100000
section
variable {w0:World} {A:Option Addr} {n c:Nat} {xs:List Int}
theorem ps_c2 {W:World} {g:Nat} {p s:Int} {h:Hd} {v:Int} {S S':BkS} {f:ByteArray} (k:Ro W g (psA A n c p 0 0 s h v S S' f) 57):W.cell? ⟨g,2,none⟩=some (.int .i64 0):=(ro_cf k 2 _ rfl).1
def J1 (A:Option Addr) (n c:Nat) (xs:List Int) (g:Nat):Nat→World→Prop
 | 0=>G0 A n c g
 | 1=>G1 A n c xs g
 | _=>fun W=>∃ v,G2 A n c xs g v W
def JS (A:Option Addr) (n c:Nat) (xs:List Int) (g:Nat):Nat→World→Prop
 | 0=>G2 A n c xs g 1
 | _=>Gf A n c xs g
def JL (A:Option Addr) (n c:Nat) (xs:List Int) (g:Nat) (v:Int):Nat→World→Prop
 | 0=>G2 A n c xs g v
 | 1=>G3 A n c xs g v
 | 2=>G4 A n c xs g v
 | 3=>G5 A n c xs g v
 | 4=>G6 false A n c xs g v
 | 5=>G6 true A n c xs g v
 | 6=>G8 A n c xs g v
 | _=>Gf A n c xs g
theorem er_c {W:World} {g:Nat} (h:Er xs g W):∃ e:Int,e≠0∧W.cell? ⟨g,2,none⟩=some (.int .i64 e):=by
 obtain ⟨e,a,cs,h1,h2,k,h3,_⟩:=h
 exact ⟨e,h1,(ro_cf k 2 _ h3).1⟩
theorem gf_c {W:World} {g:Nat} (h:Gf A n c xs g W):W.cell? ⟨g,2,none⟩=some (.int .i64 0):=by
 obtain ⟨_,_,_,_,_,_,_,_,_,_,_,k,_⟩:=h
 exact ps_c2 k
theorem g2_c {W:World} {g:Nat} {v:Int} (h:G2 A n c xs g v W):W.cell? ⟨g,2,none⟩=some (.int .i64 0):=by
 obtain ⟨_,_,_,_,_,_,k,_⟩:=h
 exact ps_c2 k
theorem j1_c {g:Nat}:∀ i W,J1 A n c xs g i W→W.cell? ⟨g,2,none⟩=some (.int .i64 0)
 | 0,W,h=>ps_c2 h
 | 1,W,⟨_,_,_,_,k⟩=>ps_c2 k
 | _+2,W,⟨_,h⟩=>g2_c h
theorem js_c {g:Nat}:∀ i W,JS A n c xs g i W→W.cell? ⟨g,2,none⟩=some (.int .i64 0)
 | 0,W,h=>g2_c h
 | _+1,W,h=>gf_c h
theorem jl_c {g:Nat} {v:Int}:∀ i W,JL A n c xs g v i W→W.cell? ⟨g,2,none⟩=some (.int .i64 0)
 | 0,W,h=>g2_c h
 | 1,W,⟨_,_,_,_,_,_,_,_,_,k,_⟩=>ps_c2 k
 | 2,W,⟨_,_,_,_,_,_,_,_,_,k,_⟩=>ps_c2 k
 | 3,W,⟨_,_,_,_,_,_,_,_,_,_,_,k,_⟩=>ps_c2 k
 | 4,W,⟨_,_,_,_,_,_,_,_,_,_,_,_,k,_⟩=>ps_c2 k
 | 5,W,⟨_,_,_,_,_,_,_,_,_,_,_,_,k,_⟩=>ps_c2 k
 | 6,W,⟨_,_,_,_,_,_,_,_,_,_,_,_,_,k,_⟩=>ps_c2 k
 | _+7,W,h=>gf_c h
theorem but_row (g:Nat) (w:World) (cs:Array Value):But g w (w.setRow g cs):=⟨rfl,rfl,rfl,by rw [size_setRow];exact Nat.le_refl _,fun k _ hn=>setRow_other w g k cs hn⟩
def PPost (w0:World) (xs:List Int) (z:Ending) (w':World):Prop:=∃ v S S' f Q Q' e a,z=.returned (.tuple #[.agg (flA v S S' f),.int .i64 e,.int .i64 a])∧ParR w' w0.heap.size xs v S S' f Q Q' e a∧Below w0.heap.size w0 w'
theorem retP {w':World} {v:Int} {S S':BkS} {f:ByteArray} {Q Q':Bk} {cf:Array Value} (h:parF xs=.ok (v,Q,Q',fB (byt f))) (hf:f.size≤n) (hn:n≤100000) (o:OwBk w' w0.heap.size S Q) (o':OwBk w' w0.heap.size S' Q') (hc:cf=flA v S S' f) (hb:Below w0.heap.size w0 w'):PPost w0 xs (.returned (.tuple #[.agg cf,.int .i64 0,.int .i64 0])) w' :=
 ⟨v,S,S',f,Q,Q',0,0,by rw [hc],⟨.inl ⟨h,rfl,rfl⟩,o,o',by omega⟩,hb⟩
theorem retE {w':World} {e a:Int} {cf:Array Value} (h:parF xs=.error (e,a)) (he:e≠0) (hs:w0.heap.size≤w'.heap.size) (hc:cf=flA 0 BkS.zero BkS.zero ⟨#[]⟩) (hb:Below w0.heap.size w0 w'):PPost w0 xs (.returned (.tuple #[.agg cf,.int .i64 e,.int .i64 a])) w' :=
 ⟨0,BkS.zero,BkS.zero,⟨#[]⟩,Bk.zero,Bk.zero,e,a,by rw [hc],⟨.inr ⟨h,he,rfl,rfl,rfl,rfl⟩,bl_.zero_ow hs,bl_.zero_ow hs,Nat.zero_le _⟩,hb⟩
end
namespace zf_
theorem later (g:Nat) (cs:Array Value) (v:Int) (w:World) (k:Ro w g cs 57) (q:cs[12]?=some (.int .i64 v)) :
 Calls Tryz.prog 22 #[.pointer (some ⟨g,0,none⟩)] w fun z w'=>∃ gr,z=.returned (.slice (some ⟨gr,0,none⟩) (if v=1 then 1 else 7) (if v=1 then 1 else 7))∧Rd w' (some ⟨gr,0,none⟩) (if v=1 then 1 else 7) (if v=1 then fsS g else fsL g)∧w.heap.size≤gr∧Below w.heap.size w w':=by
 have hmf:∀ (fn:Fn) (first cap:Array Value) (w:World),(Instr.makeFunc fn first cap).run Tryz.prog w=.ok (.func fn first cap) w:=fun _ _ _ _=>rfl
 obtain ⟨y12,z12⟩:=ro_cf k 12 _ q
 clear k q
 by_cases hv:v=1
 ·have d1:(v == 1)=true:=by simpa using hv
  have d2:decide (v=1)=true:=decide_eq_true hv
  rw [if_pos hv,if_pos hv]
  replace hv:=hide hv
  go_enter Tryz.func22,Tryz.ntmps22
  go_wp2
  go_ret
  exact ⟨w.heap.size,rfl,rd_lm w [.func (.func 35) #[.pointer (some ⟨g,0,none⟩)] #[]] 1 (0,0),Nat.le_refl _,bl_new _ _⟩
 ·have d1:(v == 1)=false:=by simpa using hv
  have d2:decide (v=1)=false:=decide_eq_false hv
  rw [if_neg hv,if_neg hv]
  replace hv:=hide hv
  go_enter Tryz.func22,Tryz.ntmps22
  go_wp2
  go_ret
  exact ⟨w.heap.size,rfl,rd_lm w [.func (.func 36) #[.pointer (some ⟨g,0,none⟩)] #[],.func (.func 37) #[.pointer (some ⟨g,0,none⟩)] #[],.func (.func 38) #[.pointer (some ⟨g,0,none⟩)] #[],.func (.func 39) #[.pointer (some ⟨g,0,none⟩)] #[],.func (.func 40) #[.pointer (some ⟨g,0,none⟩)] #[],.func (.func 38) #[.pointer (some ⟨g,0,none⟩)] #[],.func (.func 35) #[.pointer (some ⟨g,0,none⟩)] #[]] 1 (0,0),Nat.le_refl _,bl_new _ _⟩
theorem en_firstHeader (args:Array Value) (w:World):(callFunc 20 args).run Tryz.prog w=.ok (.enter 20 args) w:=lp_.enters Tryz.func20 (by kernel_rfl) (by kernel_rfl) args w
theorem en_firstBlock (args:Array Value) (w:World):(callFunc 21 args).run Tryz.prog w=.ok (.enter 21 args) w:=lp_.enters Tryz.func21 (by kernel_rfl) (by kernel_rfl) args w
theorem en_secondHeader (args:Array Value) (w:World):(callFunc 36 args).run Tryz.prog w=.ok (.enter 36 args) w:=lp_.enters Tryz.func36 (by kernel_rfl) (by kernel_rfl) args w
theorem en_secondBlock (args:Array Value) (w:World):(callFunc 37 args).run Tryz.prog w=.ok (.enter 37 args) w:=lp_.enters Tryz.func37 (by kernel_rfl) (by kernel_rfl) args w
theorem en_readNewline (args:Array Value) (w:World):(callFunc 38 args).run Tryz.prog w=.ok (.enter 38 args) w:=lp_.enters Tryz.func38 (by kernel_rfl) (by kernel_rfl) args w
theorem en_readFooter (args:Array Value) (w:World):(callFunc 39 args).run Tryz.prog w=.ok (.enter 39 args) w:=lp_.enters Tryz.func39 (by kernel_rfl) (by kernel_rfl) args w
theorem en_checkFooter (args:Array Value) (w:World):(callFunc 40 args).run Tryz.prog w=.ok (.enter 40 args) w:=lp_.enters Tryz.func40 (by kernel_rfl) (by kernel_rfl) args w
theorem en_readEnd (args:Array Value) (w:World):(callFunc 35 args).run Tryz.prog w=.ok (.enter 35 args) w:=lp_.enters Tryz.func35 (by kernel_rfl) (by kernel_rfl) args w
theorem run1 {w0:World} {A:Option Addr} {n c:Nat} {xs:List Int} (I:PIn w0 A n c xs) (g gr:Nat) (w:World) (hg:w0.heap.size≤g) (hl:Below w0.heap.size w0 w) (hr:Rd w (some ⟨gr,0,none⟩) 2 (fs1 g)) (hgr:gr≠g) (h:G0 A n c g w) :
 Calls Tryz.prog 19 #[.pointer (some ⟨g,0,none⟩),.slice (some ⟨gr,0,none⟩) 2 2] w fun z w'=>z=.returned (.tuple #[])∧((∃ v,G2 A n c xs g v w')∨Er xs g w')∧But g w w' :=
 run g gr 2 (fs1 g) (J1 A n c xs g) (Er xs g) w hr hgr (by decide) j1_c (fun _=>er_c) (fun i hi=>by
  rcases (show i=0∨i=1 by omega) with rfl | rfl
  ·exact ⟨_,rfl,en_firstHeader,fun W hW hJ=>st1 I g W hg (But.down hl hg hW) hJ⟩
  ·exact ⟨_,rfl,en_firstBlock,fun W hW hJ=>st2 I g W hg (But.down hl hg hW) hJ⟩) (.inl h)
theorem run2 {w0:World} {A:Option Addr} {n c:Nat} {xs:List Int} (I:PIn w0 A n c xs) (g gr:Nat) (w:World) (hg:w0.heap.size≤g) (hl:Below w0.heap.size w0 w) (hr:Rd w (some ⟨gr,0,none⟩) 1 (fsS g)) (hgr:gr≠g) (h:G2 A n c xs g 1 w∨Er xs g w) :
 Calls Tryz.prog 19 #[.pointer (some ⟨g,0,none⟩),.slice (some ⟨gr,0,none⟩) 1 1] w fun z w'=>z=.returned (.tuple #[])∧(Gf A n c xs g w'∨Er xs g w')∧But g w w' :=
 run g gr 1 (fsS g) (JS A n c xs g) (Er xs g) w hr hgr (by decide) js_c (fun _=>er_c) (fun i hi=>by
  obtain rfl:i=0:=by omega
  exact ⟨_,rfl,en_readEnd,fun W hW hJ=>st10 I g W hJ⟩) h
theorem run3 {w0:World} {A:Option Addr} {n c:Nat} {xs:List Int} (I:PIn w0 A n c xs) (g gr:Nat) (v:Int) (hv:v≠1) (w:World) (hg:w0.heap.size≤g) (hl:Below w0.heap.size w0 w) (hr:Rd w (some ⟨gr,0,none⟩) 7 (fsL g)) (hgr:gr≠g) (h:G2 A n c xs g v w∨Er xs g w) :
 Calls Tryz.prog 19 #[.pointer (some ⟨g,0,none⟩),.slice (some ⟨gr,0,none⟩) 7 7] w fun z w'=>z=.returned (.tuple #[])∧(Gf A n c xs g w'∨Er xs g w')∧But g w w' :=
 run g gr 7 (fsL g) (JL A n c xs g v) (Er xs g) w hr hgr (by decide) jl_c (fun _=>er_c) (fun i hi=>by
  rcases (show i=0∨i=1∨i=2∨i=3∨i=4∨i=5∨i=6 by omega) with rfl | rfl | rfl | rfl | rfl | rfl | rfl
  ·exact ⟨_,rfl,en_secondHeader,fun W hW hJ=>st3 I g v hv W hg (But.down hl hg hW) hJ⟩
  ·exact ⟨_,rfl,en_secondBlock,fun W hW hJ=>st4 I g v hv W hg (But.down hl hg hW) hJ⟩
  ·exact ⟨_,rfl,en_readNewline,fun W hW hJ=>st5 I g v hv W hg (But.down hl hg hW) hJ⟩
  ·exact ⟨_,rfl,en_readFooter,fun W hW hJ=>st6 I g v hv W hg (But.down hl hg hW) hJ⟩
  ·exact ⟨_,rfl,en_checkFooter,fun W hW hJ=>st7 I g v hv W hg (But.down hl hg hW) hJ⟩
  ·exact ⟨_,rfl,en_readNewline,fun W hW hJ=>st8 I g v hv W hg (But.down hl hg hW) hJ⟩
  ·exact ⟨_,rfl,en_readEnd,fun W hW hJ=>st9 I g v hv W hg (But.down hl hg hW) hJ⟩
  ) h
theorem runL {w0:World} {A:Option Addr} {n c:Nat} {xs:List Int} (I:PIn w0 A n c xs) (g gr:Nat) (v:Int) (w:World) (hg:w0.heap.size≤g) (hl:Below w0.heap.size w0 w) (hr:Rd w (some ⟨gr,0,none⟩) (if v=1 then 1 else 7) (if v=1 then fsS g else fsL g)) (hgr:gr≠g) (h:G2 A n c xs g v w∨Er xs g w) :
 Calls Tryz.prog 19 #[.pointer (some ⟨g,0,none⟩),.slice (some ⟨gr,0,none⟩) (if v=1 then 1 else 7) (if v=1 then 1 else 7)] w fun z w'=>z=.returned (.tuple #[])∧(Gf A n c xs g w'∨Er xs g w')∧But g w w':=by
 by_cases hv:v=1
 ·subst hv
  rw [if_pos rfl,if_pos rfl] at hr
  rw [if_pos rfl]
  exact run2 I g gr w hg hl hr hgr h
 ·rw [if_neg hv,if_neg hv] at hr
  rw [if_neg hv]
  exact run3 I g gr v hv w hg hl hr hgr h
theorem Parse {w0:World} {A:Option Addr} {n c:Nat} {xs:List Int} (I:PIn w0 A n c xs):Calls Tryz.prog 10 #[.slice A n c] w0 (PPost w0 xs):=by
 have hmf:∀ (fn:Fn) (first cap:Array Value) (w:World),(Instr.makeFunc fn first cap).run Tryz.prog w=.ok (.func fn first cap) w:=fun _ _ _ _=>rfl
 have GP:Gr Tryz.prog 57 28 #[.slice A n c,.int .i64 0,.int .i64 0,.int .i64 0,.int .i64 0,.int .i64 0,.int .u32 0,.int .u32 0,.int .u32 0,.int .u32 0,.int .u32 0,.int .u32 0,.int .i64 0,.slice none 0 0,.slice none 0 0,.slice none 0 0,.slice none 0 0,.slice none 0 0,.slice none 0 0,.slice none 0 0,.slice none 0 0,.slice none 0 0,.slice none 0 0,.slice none 0 0,.slice none 0 0,.slice none 0 0,.slice none 0 0,.string ⟨#[]⟩]:=⟨by rw [show (#[.slice A n c,.int .i64 0,.int .i64 0,.int .i64 0,.int .i64 0,.int .i64 0,.int .u32 0,.int .u32 0,.int .u32 0,.int .u32 0,.int .u32 0,.int .u32 0,.int .i64 0,.slice none 0 0,.slice none 0 0,.slice none 0 0,.slice none 0 0,.slice none 0 0,.slice none 0 0,.slice none 0 0,.slice none 0 0,.slice none 0 0,.slice none 0 0,.slice none 0 0,.slice none 0 0,.slice none 0 0,.slice none 0 0,.string ⟨#[]⟩]:Array Value).size=28 from rfl];kernel_rfl,rfl,by simp [Value.oneCell']⟩
 have kr:=hide (Ro.new w0 (flA 0 BkS.zero BkS.zero ⟨#[]⟩) 30)
 have hb:=hide (bl_new w0 (.cells #[.int .i64 0,.slice none 0 0,.slice none 0 0,.slice none 0 0,.slice none 0 0,.slice none 0 0,.slice none 0 0,.slice none 0 0,.slice none 0 0,.slice none 0 0,.slice none 0 0,.slice none 0 0,.slice none 0 0,.slice none 0 0,.slice none 0 0,.string ⟨#[]⟩] 30))
 go_enter Tryz.func10,Tryz.ntmps10
 go_upto_region 1 with fail
 replace kr:=hide (show Ro (w0.alloc (.cells #[.int .i64 0,.slice none 0 0,.slice none 0 0,.slice none 0 0,.slice none 0 0,.slice none 0 0,.slice none 0 0,.slice none 0 0,.slice none 0 0,.slice none 0 0,.slice none 0 0,.slice none 0 0,.slice none 0 0,.slice none 0 0,.slice none 0 0,.string ⟨#[]⟩] 30)) w0.heap.size (flA 0 BkS.zero BkS.zero ⟨#[]⟩) 30 from kr.out)
 generalize w0.alloc (.cells #[.int .i64 0,.slice none 0 0,.slice none 0 0,.slice none 0 0,.slice none 0 0,.slice none 0 0,.slice none 0 0,.slice none 0 0,.slice none 0 0,.slice none 0 0,.slice none 0 0,.slice none 0 0,.slice none 0 0,.slice none 0 0,.slice none 0 0,.string ⟨#[]⟩] 30)=u0 at *
 go_wp2_with fail
 refine (cu_.New A n c _).mono ?_
 rintro z u1 ⟨rfl,h1⟩
 replace kr:=hide (kr.out.below h1)
 replace hb:=hide (bel_next hb.out h1)
 clear h1
 go_upto_region 2 with (refine wpList_store_row rfl 57 _ _ rfl _ _ rfl rfl _ _ (heap_alloc_last _ _) GP.1 (by rw [GP.2.1];rfl) GP.2.2 ?_;rw [World.setRow_alloc_new])
 have k:=hide (show Ro (u1.alloc (.cells #[.slice A n c,.int .i64 0,.int .i64 0,.int .i64 0,.int .i64 0,.int .i64 0,.int .u32 0,.int .u32 0,.int .u32 0,.int .u32 0,.int .u32 0,.int .u32 0,.int .i64 0,.slice none 0 0,.slice none 0 0,.slice none 0 0,.slice none 0 0,.slice none 0 0,.slice none 0 0,.slice none 0 0,.slice none 0 0,.slice none 0 0,.slice none 0 0,.slice none 0 0,.slice none 0 0,.slice none 0 0,.slice none 0 0,.string ⟨#[]⟩] 57)) u1.heap.size (psA A n c 0 0 0 0 Hd0 0 BkS.zero BkS.zero ⟨#[]⟩) 57 from Ro.new u1 _ 57)
 have kz:=hide kr.out.lt
 replace kr:=hide (kr.out.alloc (.cells #[.slice A n c,.int .i64 0,.int .i64 0,.int .i64 0,.int .i64 0,.int .i64 0,.int .u32 0,.int .u32 0,.int .u32 0,.int .u32 0,.int .u32 0,.int .u32 0,.int .i64 0,.slice none 0 0,.slice none 0 0,.slice none 0 0,.slice none 0 0,.slice none 0 0,.slice none 0 0,.slice none 0 0,.slice none 0 0,.slice none 0 0,.slice none 0 0,.slice none 0 0,.slice none 0 0,.slice none 0 0,.slice none 0 0,.string ⟨#[]⟩] 57))
 have ne:=hide (show w0.heap.size≠u1.heap.size∧w0.heap.size≤u1.heap.size from by have:=kz.out;have:=hb.out.size;omega)
 replace hb:=hide (bl_alloc hb.out (.cells #[.slice A n c,.int .i64 0,.int .i64 0,.int .i64 0,.int .i64 0,.int .i64 0,.int .u32 0,.int .u32 0,.int .u32 0,.int .u32 0,.int .u32 0,.int .u32 0,.int .i64 0,.slice none 0 0,.slice none 0 0,.slice none 0 0,.slice none 0 0,.slice none 0 0,.slice none 0 0,.slice none 0 0,.slice none 0 0,.slice none 0 0,.slice none 0 0,.slice none 0 0,.slice none 0 0,.slice none 0 0,.slice none 0 0,.string ⟨#[]⟩] 57))
 generalize u1.alloc (.cells #[.slice A n c,.int .i64 0,.int .i64 0,.int .i64 0,.int .i64 0,.int .i64 0,.int .u32 0,.int .u32 0,.int .u32 0,.int .u32 0,.int .u32 0,.int .u32 0,.int .i64 0,.slice none 0 0,.slice none 0 0,.slice none 0 0,.slice none 0 0,.slice none 0 0,.slice none 0 0,.slice none 0 0,.slice none 0 0,.slice none 0 0,.slice none 0 0,.slice none 0 0,.slice none 0 0,.slice none 0 0,.slice none 0 0,.string ⟨#[]⟩] 57)=u2 at *
 have kg:=hide (show u1.heap.size<u2.heap.size from k.out.lt)
 generalize u1.heap.size=g at *
 have R1:=hide (fun gr W (hg:w0.heap.size≤g) (hl:Below w0.heap.size w0 W) hr hgr h0=>run1 I g gr W hg hl hr hgr h0)
 have rl:=hide (rd_lm u2 (fs1 g) 1 (0,0))
 go_wp2_with fail
 refine (R1.out _ _ ne.out.2 (bl_alloc hb.out _) rl.out (by have:=kg.out;omega) (show G0 A n c g _ from k.out.alloc _)).mono ?_
 rintro z u3 ⟨rfl,hJ,hB⟩
 have hB2:=hide ((But.of (b:=g) (bl_new u2 (.cells #[.func (.func 20) #[.pointer (some ⟨g,0,none⟩)] #[],.func (.func 21) #[.pointer (some ⟨g,0,none⟩)] #[]] 1))).trans hB)
 replace kr:=hide (ro_but kr.out hB2.out ne.out.1)
 replace hb:=hide (But.down hb.out ne.out.2 hB2.out)
 have kg3:=hide (show g<u3.heap.size from by have:=kg.out;have:=hB2.out.size;omega)
 clear hB hB2 rl R1 kg k GP
 obtain ⟨v,hJv⟩:∃ v,(G2 A n c xs g v u3∨Er xs g u3)∧∃ cs,Ro u3 g cs 57∧cs[12]?=some (.int .i64 v):=by
  rcases hJ with ⟨v,h,s,Q,S,q,P1,k,o⟩ | hE
  ·exact ⟨v,.inl ⟨h,s,Q,S,q,P1,k,o⟩,_,k,rfl⟩
  ·obtain ⟨e,a,cs,h1,h2,k,h3,h4,v,h5⟩:=hE
   exact ⟨v,.inr ⟨e,a,cs,h1,h2,k,h3,h4,v,h5⟩,cs,k,h5⟩
 obtain ⟨hJ2,cs,kc,qc⟩:=hJv
 clear hJ
 have L:=hide (later g cs v u3 kc qc)
 have R2:=hide (fun gr W (hg:w0.heap.size≤g) (hl:Below w0.heap.size w0 W) hr hgr h0=>runL I g gr v W hg hl hr hgr h0)
 replace hJ2:=hide hJ2
 clear kc qc
 generalize (if v=1 then fsS g else fsL g)=fs at *
 generalize (if v=1 then 1 else 7)=k7 at *
 go_wp2_with fail
 refine L.out.mono ?_
 rintro z u4 ⟨gr,rfl,hr,hgr,h1⟩
 replace kr:=hide (kr.out.below h1)
 replace hb:=hide (bel_next hb.out h1)
 have hJ4:=hide (show G2 A n c xs g v u4∨Er xs g u4 from hJ2.out.imp (fun h=>by
  obtain ⟨h,s,Q,S,q,P1,k,o⟩:=h
  exact ⟨h,s,Q,S,q,P1,k.below h1,o.below h1⟩) (fun h=>h.below h1))
 replace hr:=hide hr
 have hgr':=hide (show gr≠g from by have:=kg3.out;omega)
 clear L h1 hJ2 hgr kg3
 go_wp2_with fail
 refine (R2.out _ _ ne.out.2 hb.out hr.out hgr'.out hJ4.out).mono ?_
 rintro z u5 ⟨rfl,hJ,hB⟩
 replace kr:=hide (ro_but kr.out hB ne.out.1)
 replace hb:=hide (But.down hb.out ne.out.2 hB)
 clear R2 hr hgr' hJ4 hB
 have hsm:=I.sm
 replace hsm:=hide hsm
 clear I hmf
 rcases hJ with hG | hE
 ·obtain ⟨h,p,s,v5,Q,Q',S,S',f,hp,hfs,k,o,o'⟩:=hG
  have sz:=k.lt
  have GF:=gr_file v5 S S' f
  obtain ⟨cs5,hcs5⟩:∃ zz,zz=psA A n c p 0 0 s h v5 S S' f:=⟨_,rfl⟩
  have q2:=hide (show cs5[2]?=some (.int .i64 0) by rw [hcs5];rfl)
  have q12:=hide (show cs5[12]?=some (.int .i64 v5) by rw [hcs5];rfl)
  have q13:=hide (show cs5[13]?=some (.slice S.ti.A S.ti.n S.ti.c) by rw [hcs5];rfl)
  have q14:=hide (show cs5[14]?=some (.slice S.ix.A S.ix.n S.ix.c) by rw [hcs5];rfl)
  have q15:=hide (show cs5[15]?=some (.slice S.ty.A S.ty.n S.ty.c) by rw [hcs5];rfl)
  have q16:=hide (show cs5[16]?=some (.slice S.ch.A S.ch.n S.ch.c) by rw [hcs5];rfl)
  have q17:=hide (show cs5[17]?=some (.slice S.lp.A S.lp.n S.lp.c) by rw [hcs5];rfl)
  have q18:=hide (show cs5[18]?=some (.slice S.sd.A S.sd.n S.sd.c) by rw [hcs5];rfl)
  have q19:=hide (show cs5[19]?=some (.slice S.ut.A S.ut.n S.ut.c) by rw [hcs5];rfl)
  have q20:=hide (show cs5[20]?=some (.slice S'.ti.A S'.ti.n S'.ti.c) by rw [hcs5];rfl)
  have q21:=hide (show cs5[21]?=some (.slice S'.ix.A S'.ix.n S'.ix.c) by rw [hcs5];rfl)
  have q22:=hide (show cs5[22]?=some (.slice S'.ty.A S'.ty.n S'.ty.c) by rw [hcs5];rfl)
  have q23:=hide (show cs5[23]?=some (.slice S'.ch.A S'.ch.n S'.ch.c) by rw [hcs5];rfl)
  have q24:=hide (show cs5[24]?=some (.slice S'.lp.A S'.lp.n S'.lp.c) by rw [hcs5];rfl)
  have q25:=hide (show cs5[25]?=some (.slice S'.sd.A S'.sd.n S'.sd.c) by rw [hcs5];rfl)
  have q26:=hide (show cs5[26]?=some (.slice S'.ut.A S'.ut.n S'.ut.c) by rw [hcs5];rfl)
  have q27:=hide (show cs5[27]?=some (.string f) by rw [hcs5];rfl)
  rw [← hcs5] at k
  clear hcs5
  replace k:=hide k
  replace hp:=hide hp
  replace hfs:=hide hfs
  replace o:=hide o
  replace o':=hide o'
  replace sz:=hide sz
  have Bf:=hide (but_row w0.heap.size u5 (flA v5 S S' f))
  replace o:=hide (o.out.but (by have:=ne.out;omega) Bf.out)
  replace o':=hide (o'.out.but (by have:=ne.out;omega) Bf.out)
  have hbf:=hide (bl_row hb.out (Nat.le_refl _) (flA v5 S S' f))
  have kf:=hide (ro_row kr.out (flA v5 S S' f))
  clear hb Bf
  obtain ⟨y2,z2⟩:=ro_cf k.out 2 _ q2.out
  obtain ⟨y12,z12⟩:=ro_cf k.out 12 _ q12.out
  obtain ⟨y13,z13⟩:=ro_cf k.out 13 _ q13.out
  obtain ⟨y14,z14⟩:=ro_cf k.out 14 _ q14.out
  obtain ⟨y15,z15⟩:=ro_cf k.out 15 _ q15.out
  obtain ⟨y16,z16⟩:=ro_cf k.out 16 _ q16.out
  obtain ⟨y17,z17⟩:=ro_cf k.out 17 _ q17.out
  obtain ⟨y18,z18⟩:=ro_cf k.out 18 _ q18.out
  obtain ⟨y19,z19⟩:=ro_cf k.out 19 _ q19.out
  obtain ⟨y20,z20⟩:=ro_cf k.out 20 _ q20.out
  obtain ⟨y21,z21⟩:=ro_cf k.out 21 _ q21.out
  obtain ⟨y22,z22⟩:=ro_cf k.out 22 _ q22.out
  obtain ⟨y23,z23⟩:=ro_cf k.out 23 _ q23.out
  obtain ⟨y24,z24⟩:=ro_cf k.out 24 _ q24.out
  obtain ⟨y25,z25⟩:=ro_cf k.out 25 _ q25.out
  obtain ⟨y26,z26⟩:=ro_cf k.out 26 _ q26.out
  obtain ⟨y27,z27⟩:=ro_cf k.out 27 _ q27.out
  clear k
  go_wp2_with (refine wpList_store_row rfl 30 _ _ rfl w0.heap.size (flA v5 S S' f) rfl rfl 30 _ kr.out GF.1 (by rw [GF.2.1];rfl) GF.2.2 ?_)
  clear y2 z2 y12 z12 y13 z13 y14 z14 y15 z15 y16 z16 y17 z17 y18 z18 y19 z19 y20 z20 y21 z21 y22 z22 y23 z23 y24 z24 y25 z25 y26 z26 y27 z27
  clear kr
  generalize u5.setRow w0.heap.size (flA v5 S S' f)=u6 at *
  have fl:=(kf.out.load (P:=Tryz.prog) 30 _ Tryz.underlying30 rfl GF.1).2
  obtain ⟨cf,hcf⟩:∃ c,c=flA v5 S S' f:=⟨_,rfl⟩
  rw [← hcf] at fl
  replace hcf:=hide hcf
  clear kf GF
  exact bodyPost_ret (results_c12 Tryz.results10 rfl rfl rfl fl) rfl (retP hp.out hfs.out hsm.out (o.out.mono (by have:=ne.out;omega)) (o'.out.mono (by have:=ne.out;omega)) hcf.out hbf.out)
 ·obtain ⟨e,a,cs5,he,hp,k,q2,q3,_⟩:=hE
  have d1:(e != 0)=true:=by simpa using he
  have d2:decide (e=0)=false:=decide_eq_false he
  replace q2:=hide q2
  replace q3:=hide q3
  replace k:=hide k
  replace he:=hide he
  replace hp:=hide hp
  have GF:=gr_file 0 BkS.zero BkS.zero ⟨#[]⟩
  obtain ⟨y2,z2⟩:=ro_cf k.out 2 _ q2.out
  go_upto_region 5 with fail
  clear y2 z2 d1 d2
  replace k:=hide k.out.drew
  replace kr:=hide kr.out.drew
  replace hb:=hide (bl_drew hb.out)
  refine wp_region_held_drew (S:=fun w'=>Hid (Ro w' g cs5 57)) (by kernel_rfl) (hide k.out) (fun hHeld=>?_)
  generalize u5.drew=v0 at *
  refine tkV 0 (some 19) (v:=?_) ?_ ?_
  rotate_left
  ·((intro w hSw;go_simp) <;> with_reducible rfl)
  try simp only [Act.put,sI1,sI2,sI3]
  refine tkV 1 (some 20) (v:=?_) ?_ ?_
  rotate_left
  ·((intro w hSw;go_simp) <;> with_reducible rfl)
  try simp only [Act.put,sI1,sI2,sI3]
  refine tkV 2 (some 21) (v:=?_) ?_ ?_
  rotate_left
  ·((intro w hSw;go_simp) <;> with_reducible rfl)
  try simp only [Act.put,sI1,sI2,sI3]
  refine tkV 3 (some 22) (v:=?_) ?_ ?_
  rotate_left
  ·((intro w hSw;obtain ⟨y2,_⟩:=ro_cf hSw.out 2 _ q2.out;go_simp) <;> with_reducible rfl)
  try simp only [Act.put,sI1,sI2,sI3]
  refine tkV 4 (some 23) (v:=?_) ?_ ?_
  rotate_left
  ·((intro w hSw;go_simp) <;> with_reducible rfl)
  try simp only [Act.put,sI1,sI2,sI3]
  refine tkV 5 (some 24) (v:=?_) ?_ ?_
  rotate_left
  ·((intro w hSw;go_simp) <;> with_reducible rfl)
  try simp only [Act.put,sI1,sI2,sI3]
  refine tkV 6 (some 25) (v:=?_) ?_ ?_
  rotate_left
  ·((intro w hSw;obtain ⟨y3,_⟩:=ro_cf hSw.out 3 _ q3.out;go_simp) <;> with_reducible rfl)
  try simp only [Act.put,sI1,sI2,sI3]
  refine wpAnyH_ready (rs:=[7]) (by kernel_rfl) (by simp) ?_
  refine AllReadyH.cons rfl (fun K hK=>?_) (AllReadyH.nil)
  rw [if_pos (by rfl)]
  refine wp_store_row 30 _ _ rfl w0.heap.size (flA 0 BkS.zero BkS.zero ⟨#[]⟩) rfl rfl 30 _ kr.out GF.1 rfl GF.2.2 ?_
  replace k:=hide (ro_but k.out (but_row w0.heap.size v0 (flA 0 BkS.zero BkS.zero ⟨#[]⟩)) ne.out.1.symm)
  replace hb:=hide (bl_row hb.out (Nat.le_refl _) (flA 0 BkS.zero BkS.zero ⟨#[]⟩))
  replace kr:=hide (ro_row kr.out (flA 0 BkS.zero BkS.zero ⟨#[]⟩))
  refine hK.out _ _ (hide k.out) (fun hHeld=>?_)
  clear hK K
  generalize v0.setRow w0.heap.size (flA 0 BkS.zero BkS.zero ⟨#[]⟩)=v1 at *
  try simp only [Act.put,sI1,sI2,sI3]
  refine tkV 8 (some 3) (v:=?_) ?_ ?_
  rotate_left
  ·((intro w hSw;go_simp) <;> with_reducible rfl)
  try simp only [Act.put,sI1,sI2,sI3]
  refine tkV 9 (some 4) (v:=?_) ?_ ?_
  rotate_left
  ·((intro w hSw;go_simp) <;> with_reducible rfl)
  try simp only [Act.put,sI1,sI2,sI3]
  refine wpAnyH_done (by kernel_rfl) ?_ _
  have fl:=(kr.out.load (P:=Tryz.prog) 30 _ Tryz.underlying30 rfl GF.1).2
  have sv:=hide (show w0.heap.size≤v1.heap.size from hb.out.size)
  clear kr hHeld GF k
  obtain ⟨cf,hcf⟩:∃ c,c=(flA 0 BkS.zero BkS.zero ⟨#[]⟩):=⟨_,rfl⟩
  rw [← hcf] at fl
  replace hcf:=hide hcf
  go_wp2
  exact bodyPost_ret (results_c12 Tryz.results10 rfl rfl rfl fl) rfl (retE hp.out he.out sv.out hcf.out hb.out)
end zf_
theorem le_of {b:Bk} {n:Nat} (h:b.le n):b.le' n:=h
theorem le_up' {b:Bk} {n m:Nat} (h:b.le n) (hm:n≤m):b.le m:=le_up (le_of h) hm
noncomputable def serL (v:Int) (A B:Bk) (s:List UInt8):List Int:=if vFile v A B s=0 then encF v A B (fB s) else []
theorem file_parts {v:Int} {A B:Bk} {s:List UInt8} (h:vFile v A B s=0):1≤v∧v≤4∧A.fit 4∧(v≠1→B.fit 8):=by
 unfold vFile at h
 by_cases v0:v<1∨4<v
 ·rw [if_pos v0] at h;cases h
 rw [if_neg v0] at h
 by_cases e1:vB A (decide (v=4)) 4=0
 rotate_left
 ·rw [if_pos e1] at h;exact absurd h e1
 rw [if_neg (fun z=>z e1)] at h
 refine ⟨by omega,by omega,((vB_iff _ _ _).1 e1).fit,fun hv=>?_⟩
 rw [if_neg hv] at h
 by_cases e2:vB B (decide (v=4)) 8=0
 ·exact ((vB_iff _ _ _).1 e2).fit
 ·rw [if_pos e2] at h;exact absurd h e2
theorem rd_bw (w:World) (e:TypeId) (s:ByteArray):Rd (Lib.bytesWorld w e s) (some ⟨w.heap.size,0,none⟩) s.size ((fB (byt s)).map (Value.int .u8)):=by
 refine ⟨by rw [List.length_map,fB_len,len_byt],fun _=>⟨_,rfl,fun i v hv=>?_⟩⟩
 have hi:i<s.size:=by
  have:=(List.getElem?_eq_some_iff.1 hv).1
  rw [List.length_map,fB_len,len_byt] at this
  exact this
 rw [addr_flat,Nat.zero_add,Lib.bytesWorld_cell w e s i hi]
 unfold fB byt at hv
 rw [List.getElem?_map,List.getElem?_map] at hv
 have hl:i<s.data.toList.length:=by rw [Array.length_toList];exact hi
 rw [List.getElem?_eq_getElem hl] at hv
 rw [List.getD_eq_getElem?_getD,List.getElem?_eq_getElem hl]
 simpa using hv
theorem catZ (a b:ByteArray) (n:Nat) (h:a.size+b.size≤n) (hn:n≤1000000):∃ A:ByteArray,A.size≤n∧byt A=byt a++byt b∧∀ w,(Op.stringOp .add a b).run Tryz.prog w=.ok (.string A) w :=
 ⟨a++b,by rw [ByteArray.size_append];exact h,byt_append a b,fun w=>run_string_add_sum w a b (by omega)⟩
theorem partE_small {k:Nat} (hk:k=4∨k=8) {v:Int} {b:Bk} (hs:b.le 10000) (hf:b.fit k):(partE k v b).length≤310000:=by
 rw [partE_len hf.len]
 obtain ⟨a0,a1,a2,a3,a4,a5,a6⟩:=hs
 unfold totB tot
 rcases hk with rfl | rfl <;> omega
namespace zf_
theorem encodePart (S:BkS) (b:Bk) (v:Int) (k:Nat) (K:Int) (w:World) (hT:T21 w) (hK:K=(k:Int)) (hk:k=4∨k=8) (hv0:1≤v) (hv1:v≤4) (h:IsBk w S b) (hs:b.le 10000) (hf:b.fit k) :
 Calls Tryz.prog 26 #[bkV S,.int .i64 v,.int .i64 K] w fun e w'=>∃ A' c',e=.returned (.slice A' (partE k v b).length c')∧Ow w' w.heap.size 5 A' (partE k v b).length c' ((partE k v b).map (Value.int .u8))∧Below w.heap.size w w':=by
 have hk32:b.few32:=⟨by have:=hs.1;omega,by have:=hs.2.2.1;omega,by have:=hs.2.2.2.1;omega,by have:=hs.2.2.2.2.1;omega,by have:=hs.2.2.2.2.2.1;omega,by have:=hs.2.2.2.2.2.2;omega⟩
 have C1:=hide (fun W hT h=>bl_.Header S b v W hT h (le_up' hs (by decide)))
 have C2:=hide (fun W hT=>hd_.Encode (hdOf v b) W hT (hdOf_ok hv0 hv1 hk32))
 have C3:=hide (fun W hT h=>bl_.Encode S b k (encB k b).length K W hT hK hk h hs hf rfl)
 have hl1:(encH (hdOf v b)).length=44:=encH_len _
 have hl2:(encB k b).length≤1000000:=by
  rw [encB_len k b hf.len]
  obtain ⟨a0,a1,a2,a3,a4,a5,a6⟩:=hs
  unfold totB tot
  rcases hk with rfl | rfl <;> omega
 have hm:(partE k v b).length=44+(encB k b).length:=by unfold partE;rw [List.length_append,hl1]
 have hmp:(partE k v b).map (Value.int .u8)=(encH (hdOf v b)).map (Value.int .u8)++(encB k b).map (Value.int .u8):=by unfold partE;rw [List.map_append]
 rw [hm,hmp]
 obtain ⟨HV,hHV⟩:∃ x,x=(hdOf v b).val:=⟨_,rfl⟩
 have C1:=hide (fun W hT h=>show Calls Tryz.prog 53 #[bkV S,.int .i64 v] W fun e w'=>e=.returned HV∧Below W.heap.size W w' from by rw [hHV];exact C1.out W hT h)
 rw [← hHV] at C2
 clear hHV hm hmp hk32 hs hf hv0 hv1 hK hk
 generalize encH (hdOf v b)=L1 at *
 generalize encB k b=L2 at *
 generalize hml:L2.length=m2 at *
 have one1:∀ u ∈ L2.map (Value.int .u8),u.oneCell'=true:=by intro u hu;obtain ⟨x,_,rfl⟩:=List.mem_map.1 hu;rfl
 replace one1:=hide one1
 replace hl1:=hide hl1
 replace hl2:=hide hl2
 replace hml:=hide hml
 have kb:=hide ((Ro.new w #[.slice S.ti.A S.ti.n S.ti.c,.slice S.ix.A S.ix.n S.ix.c,.slice S.ty.A S.ty.n S.ty.c,.slice S.ch.A S.ch.n S.ch.c,.slice S.lp.A S.lp.n S.lp.c,.slice S.sd.A S.sd.n S.sd.c,.slice S.ut.A S.ut.n S.ut.c] 28).drew)
 have hb:=hide (bl_drew (bl_new w (.cells #[.slice S.ti.A S.ti.n S.ti.c,.slice S.ix.A S.ix.n S.ix.c,.slice S.ty.A S.ty.n S.ty.c,.slice S.ch.A S.ch.n S.ch.c,.slice S.lp.A S.lp.n S.lp.c,.slice S.sd.A S.sd.n S.sd.c,.slice S.ut.A S.ut.n S.ut.c] 28)))
 have i:=hide ((h.alloc (.cells #[.slice S.ti.A S.ti.n S.ti.c,.slice S.ix.A S.ix.n S.ix.c,.slice S.ty.A S.ty.n S.ty.c,.slice S.ch.A S.ch.n S.ch.c,.slice S.lp.A S.lp.n S.lp.c,.slice S.sd.A S.sd.n S.sd.c,.slice S.ut.A S.ut.n S.ut.c] 28)).drew)
 have HT:=hide (hT.below hb.out)
 clear h hT
 go_enter Tryz.func26,Tryz.ntmps26
 go_upto_region 1 with fail
 generalize (w.alloc (.cells #[.slice S.ti.A S.ti.n S.ti.c,.slice S.ix.A S.ix.n S.ix.c,.slice S.ty.A S.ty.n S.ty.c,.slice S.ch.A S.ch.n S.ch.c,.slice S.lp.A S.lp.n S.lp.c,.slice S.sd.A S.sd.n S.sd.c,.slice S.ut.A S.ut.n S.ut.c] 28))=u at *
 refine wp_region_held_drew (S:=fun w'=>Hid (Ro w' w.heap.size #[.slice S.ti.A S.ti.n S.ti.c,.slice S.ix.A S.ix.n S.ix.c,.slice S.ty.A S.ty.n S.ty.c,.slice S.ch.A S.ch.n S.ch.c,.slice S.lp.A S.lp.n S.lp.c,.slice S.sd.A S.sd.n S.sd.c,.slice S.ut.A S.ut.n S.ut.c] 28)) (by kernel_rfl) (hide kb.out) (fun hHeld=>?_)
 generalize u.drew=u0 at *
 refine tkV 0 (some 7) (v:=?_) ?_ ?_
 rotate_left
 ·((intro w hSw;obtain ⟨y0,_⟩:=ro_cf hSw.out 0 (.slice S.ti.A S.ti.n S.ti.c) rfl;obtain ⟨y1,_⟩:=ro_cf hSw.out 1 (.slice S.ix.A S.ix.n S.ix.c) rfl;obtain ⟨y2,_⟩:=ro_cf hSw.out 2 (.slice S.ty.A S.ty.n S.ty.c) rfl;obtain ⟨y3,_⟩:=ro_cf hSw.out 3 (.slice S.ch.A S.ch.n S.ch.c) rfl;obtain ⟨y4,_⟩:=ro_cf hSw.out 4 (.slice S.lp.A S.lp.n S.lp.c) rfl;obtain ⟨y5,_⟩:=ro_cf hSw.out 5 (.slice S.sd.A S.sd.n S.sd.c) rfl;obtain ⟨y6,_⟩:=ro_cf hSw.out 6 (.slice S.ut.A S.ut.n S.ut.c) rfl;go_simp) <;> with_reducible rfl)
 try simp only [Act.put,sI1,sI2,sI3]
 refine tkV 1 (some 8) (v:=?_) ?_ ?_
 rotate_left
 ·((intro w hSw;go_simp) <;> with_reducible rfl)
 try simp only [Act.put,sI1,sI2,sI3]
 refine tkV 4 (some 11) (v:=?_) ?_ ?_
 rotate_left
 ·((intro w hSw;obtain ⟨y0,_⟩:=ro_cf hSw.out 0 (.slice S.ti.A S.ti.n S.ti.c) rfl;obtain ⟨y1,_⟩:=ro_cf hSw.out 1 (.slice S.ix.A S.ix.n S.ix.c) rfl;obtain ⟨y2,_⟩:=ro_cf hSw.out 2 (.slice S.ty.A S.ty.n S.ty.c) rfl;obtain ⟨y3,_⟩:=ro_cf hSw.out 3 (.slice S.ch.A S.ch.n S.ch.c) rfl;obtain ⟨y4,_⟩:=ro_cf hSw.out 4 (.slice S.lp.A S.lp.n S.lp.c) rfl;obtain ⟨y5,_⟩:=ro_cf hSw.out 5 (.slice S.sd.A S.sd.n S.sd.c) rfl;obtain ⟨y6,_⟩:=ro_cf hSw.out 6 (.slice S.ut.A S.ut.n S.ut.c) rfl;go_simp) <;> with_reducible rfl)
 try simp only [Act.put,sI1,sI2,sI3]
 refine tkV 5 (some 12) (v:=?_) ?_ ?_
 rotate_left
 ·((intro w hSw;go_simp) <;> with_reducible rfl)
 try simp only [Act.put,sI1,sI2,sI3]
 refine wpAnyH_ready (rs:=[2]) (by kernel_rfl) (by simp) ?_
 refine AllReadyH.cons rfl (fun K hK=>?_) (AllReadyH.nil)
 go_simp
 refine (C1.out _ HT.out.2.1 i.out).mono ?_
 rintro e w1 ⟨rfl,h1⟩
 replace kb:=hide (kb.out.below h1)
 replace hb:=hide (bel_next hb.out h1)
 replace i:=hide (i.out.below h1)
 replace HT:=hide (HT.out.below h1)
 clear h1 C1
 refine hK.out _ _ (hide kb.out) (fun hHeld=>?_)
 clear hK K
 try simp only [Act.put,sI1,sI2,sI3]
 refine wpAnyH_ready (rs:=[3]) (by kernel_rfl) (by simp) ?_
 refine AllReadyH.cons rfl (fun K hK=>?_) (AllReadyH.nil)
 go_simp
 have sz:=hb.out.size
 refine (C2.out _ HT.out.2.2).mono ?_
 rintro e w2 ⟨A1,c1,rfl,oA,h1⟩
 have o1:=hide (oA.mono sz)
 replace kb:=hide (kb.out.below h1)
 replace hb:=hide (bel_next hb.out h1)
 replace i:=hide (i.out.below h1)
 replace HT:=hide (HT.out.below h1)
 clear h1 C2 oA sz
 refine hK.out _ _ (hide kb.out) (fun hHeld=>?_)
 clear hK K
 try simp only [Act.put,sI1,sI2,sI3]
 refine wpAnyH_ready (rs:=[6]) (by kernel_rfl) (by simp) ?_
 refine AllReadyH.cons rfl (fun K hK=>?_) (AllReadyH.nil)
 go_simp
 refine (C3.out _ HT.out.2.1 i.out).mono ?_
 rintro e w3 ⟨A2,c2,rfl,oA,h1⟩
 have o2:=hide oA
 replace kb:=hide (kb.out.below h1)
 replace hb:=hide (bel_next hb.out h1)
 replace i:=hide (i.out.below h1)
 replace HT:=hide (HT.out.below h1)
 replace o1:=hide (o1.out.below h1)
 clear h1 C3 oA
 refine hK.out _ _ (hide kb.out) (fun hHeld=>?_)
 clear hK K
 try simp only [Act.put,sI1,sI2,sI3]
 refine wpAnyH_ready (rs:=[7]) (by kernel_rfl) (by simp) ?_
 refine AllReadyH.cons rfl (fun K hK=>?_) (AllReadyH.nil)
 refine step_apA elU8c o1.out hb.out (Nat.le_refl _) o2.out.rd (.tmp 10) (.tmp 13) rfl rfl rfl rfl o2.out.nilcap one1.out (by have:=hl2.out;simp [maxLen];omega) (by have:=hl2.out;omega) (fun A3 c3 wz ho hb' hg=>?_)
 have kz:=hide (ro_grown kb.out hg (ow_ne_ro o1.out kb.out (by decide)))
 refine hK.out _ _ (hide kz.out) (fun hHeld=>?_)
 clear hK K
 clear kb kz i HT o1 o2 hg
 simp only [Act.put,List.getElem?_toArray,List.getElem?_cons_succ,List.getElem?_cons_zero,sI1,sI2,sI3]
 try simp only [Act.put,sI1,sI2,sI3]
 refine tkV 8 (some 6) (v:=?_) ?_ ?_
 rotate_left
 ·((intro w hSw;go_simp) <;> with_reducible rfl)
 try simp only [Act.put,sI1,sI2,sI3]
 refine wpAnyH_done (by kernel_rfl) ?_ _
 clear hHeld
 go_wp2
 all_goals go_ret
 all_goals exact ⟨A3,c3,by simp,ho,hb'⟩
theorem Serialize (v:Int) (S S':BkS) (f:ByteArray) (A B:Bk) (w:World) (hT:T21 w) (h:IsBk w S A) (h':IsBk w S' B) (hs:A.le 10000) (hs':B.le 10000) (hf:f.size≤200000) :
 Calls Tryz.prog 12 #[.agg (flA v S S' f)] w fun e w'=>∃ A' c',e=.returned (.tuple #[.slice A' (serL v A B (byt f)).length c',.int .i64 (vFile v A B (byt f))])∧Ow w' w.heap.size 5 A' (serL v A B (byt f)).length c' ((serL v A B (byt f)).map (Value.int .u8))∧Below w.heap.size w w':=by
 have G:=gr_file v S S' f
 have FI:=hide (fun W (hW:Below w.heap.size w W)=>vd_.File v S S' f A B W (hT.below hW).1 (h.below hW) (h'.below hW) (le_small h (le_up (le_of hs) (by decide))) (le_small h' (le_up (le_of hs') (by decide))) (by omega) (hT.below hW).2.1.2)
 obtain ⟨X,hX⟩:∃ X,X=vFile v A B (byt f):=⟨_,rfl⟩
 rw [← hX] at FI ⊢
 obtain ⟨cs,hcs⟩:∃ cs,cs=flA v S S' f:=⟨_,rfl⟩
 have q0:=hide (show cs[0]?=some (.int .i64 v) by rw [hcs];rfl)
 have q1:=hide (show cs[1]?=some (.slice S.ti.A S.ti.n S.ti.c) by rw [hcs];rfl)
 have q2:=hide (show cs[2]?=some (.slice S.ix.A S.ix.n S.ix.c) by rw [hcs];rfl)
 have q3:=hide (show cs[3]?=some (.slice S.ty.A S.ty.n S.ty.c) by rw [hcs];rfl)
 have q4:=hide (show cs[4]?=some (.slice S.ch.A S.ch.n S.ch.c) by rw [hcs];rfl)
 have q5:=hide (show cs[5]?=some (.slice S.lp.A S.lp.n S.lp.c) by rw [hcs];rfl)
 have q6:=hide (show cs[6]?=some (.slice S.sd.A S.sd.n S.sd.c) by rw [hcs];rfl)
 have q7:=hide (show cs[7]?=some (.slice S.ut.A S.ut.n S.ut.c) by rw [hcs];rfl)
 have q8:=hide (show cs[8]?=some (.slice S'.ti.A S'.ti.n S'.ti.c) by rw [hcs];rfl)
 have q9:=hide (show cs[9]?=some (.slice S'.ix.A S'.ix.n S'.ix.c) by rw [hcs];rfl)
 have q10:=hide (show cs[10]?=some (.slice S'.ty.A S'.ty.n S'.ty.c) by rw [hcs];rfl)
 have q11:=hide (show cs[11]?=some (.slice S'.ch.A S'.ch.n S'.ch.c) by rw [hcs];rfl)
 have q12:=hide (show cs[12]?=some (.slice S'.lp.A S'.lp.n S'.lp.c) by rw [hcs];rfl)
 have q13:=hide (show cs[13]?=some (.slice S'.sd.A S'.sd.n S'.sd.c) by rw [hcs];rfl)
 have q14:=hide (show cs[14]?=some (.slice S'.ut.A S'.ut.n S'.ut.c) by rw [hcs];rfl)
 have q15:=hide (show cs[15]?=some (.string f) by rw [hcs];rfl)
 rw [← hcs] at FI G ⊢
 clear hcs
 have k:=hide (Ro.new w cs 30)
 have hb:=hide (bl_new w (.cells cs 30))
 by_cases x0:X=0
 rotate_left
 ·unfold serL
  rw [← hX,if_neg x0]
  have d1:(X != 0)=true:=by simpa using x0
  have d2:decide (X=0)=false:=decide_eq_false x0
  clear hX h h' hT hs hs' hf
  replace x0:=hide x0
  go_enter Tryz.func12,Tryz.ntmps12
  go_upto_region 1 with fail
  generalize (w.alloc (.cells cs 30))=u at *
  go_wp2_with (refine load_row_g (by rfl) 30 _ rfl _ rfl _ _ _ k.out Tryz.underlying30 rfl G.1 ?_)
  refine (FI.out _ hb.out).mono ?_
  rintro e w1 ⟨rfl,h1⟩
  replace hb:=hide (bel_next hb.out h1)
  clear h1 FI k
  go_wp2
  go_ret2
  exact ⟨none,0,rfl,Ow.nil hb.out.size _,hb.out⟩
 obtain ⟨v0,v1,ok1,ok2⟩:=file_parts (hX ▸ x0)
 have E1:=hide (fun W (hW:Below w.heap.size w W)=>encodePart S A v 4 4 W (hT.below hW) rfl (.inl rfl) v0 v1 (h.below hW) hs ok1)
 have E2:=hide (fun (hv:v≠1) W (hW:Below w.heap.size w W)=>encodePart S' B v 8 8 W (hT.below hW) rfl (.inr rfl) v0 v1 (h'.below hW) hs' (ok2 hv))
 have hsl:serL v A B (byt f)=encF v A B (fB (byt f)):=by unfold serL;rw [← hX,if_pos x0]
 rw [hsl]
 unfold encF
 have z1:(partE 4 v A).length≤310000:=partE_small (.inl rfl) hs ok1
 have z2:v≠1→(partE 8 v B).length≤310000:=fun hv=>partE_small (.inr rfl) hs' (ok2 hv)
 clear hsl hX hT h h' hs hs' ok1 ok2 v0 v1
 subst x0
 dsimp only [bkV] at E1 E2
 generalize partE 4 v A=L1 at *
 generalize partE 8 v B=L2 at *
 by_cases hv:v=1
 ·rw [if_pos hv,List.append_nil]
  have d1:(v == 1)=true:=by simpa using hv
  have d2:decide (v=1)=true:=decide_eq_true hv
  clear E2 z2
  replace hv:=hide hv
  replace z1:=hide z1
  go_enter Tryz.func12,Tryz.ntmps12
  go_upto_region 1 with fail
  generalize (w.alloc (.cells cs 30))=u at *
  go_wp2_with (refine load_row_g (by rfl) 30 _ rfl _ rfl _ _ _ k.out Tryz.underlying30 rfl G.1 ?_)
  refine (FI.out _ hb.out).mono ?_
  rintro e w1 ⟨rfl,h1⟩
  replace hb:=hide (bel_next hb.out h1)
  replace k:=hide (k.out.below h1)
  clear h1 FI
  obtain ⟨y0,_⟩:=ro_cf k.out 0 _ q0.out
  obtain ⟨y1,_⟩:=ro_cf k.out 1 _ q1.out
  obtain ⟨y2,_⟩:=ro_cf k.out 2 _ q2.out
  obtain ⟨y3,_⟩:=ro_cf k.out 3 _ q3.out
  obtain ⟨y4,_⟩:=ro_cf k.out 4 _ q4.out
  obtain ⟨y5,_⟩:=ro_cf k.out 5 _ q5.out
  obtain ⟨y6,_⟩:=ro_cf k.out 6 _ q6.out
  obtain ⟨y7,_⟩:=ro_cf k.out 7 _ q7.out
  have sz:=hb.out.size
  go_wp2_with fail
  refine (E1.out _ hb.out).mono ?_
  rintro e w2 ⟨A1,c1,rfl,oA,h1⟩
  have o1:=hide (oA.mono sz)
  replace hb:=hide (bel_next hb.out h1)
  replace k:=hide (k.out.below h1)
  clear h1 E1 oA sz y0 y1 y2 y3 y4 y5 y6 y7
  obtain ⟨y0,_⟩:=ro_cf k.out 0 _ q0.out
  go_wp2
  go_ret2
  exact ⟨A1,c1,rfl,o1.out,hb.out⟩
 ·rw [if_neg hv]
  have d1:(v == 1)=false:=by simpa using hv
  have d2:decide (v=1)=false:=decide_eq_false hv
  replace z2:=hide (z2 hv)
  replace E2:=hide (E2.out hv)
  obtain ⟨T1,t1,t2,t3⟩:=catZ ⟨#[10]⟩ f 200001 (by rw [show (⟨#[10]⟩:ByteArray).size=1 from rfl];omega) (by decide)
  obtain ⟨T2,t4,t5,t6⟩:=catZ T1 ⟨#[10]⟩ 200002 (by rw [show (⟨#[10]⟩:ByteArray).size=1 from rfl];omega) (by decide)
  replace hv:=hide hv
  replace z1:=hide z1
  have hl3s:(fB (byt T2)).length=T2.size:=by rw [fB_len,len_byt]
  rw [show (10 :: (fB (byt f)++[10]))=fB (byt T2) from by rw [t5,t2];simp [fB,byt]]
  generalize hl3:fB (byt T2)=L3 at hl3s ⊢
  replace t1:=hide t1
  replace t4:=hide t4
  clear t2 t5
  replace hl3:=hide hl3
  replace hl3s:=hide hl3s
  go_enter Tryz.func12,Tryz.ntmps12
  go_upto_region 1 with fail
  generalize (w.alloc (.cells cs 30))=u at *
  go_wp2_with (refine load_row_g (by rfl) 30 _ rfl _ rfl _ _ _ k.out Tryz.underlying30 rfl G.1 ?_)
  refine (FI.out _ hb.out).mono ?_
  rintro e w1 ⟨rfl,h1⟩
  replace hb:=hide (bel_next hb.out h1)
  replace k:=hide (k.out.below h1)
  clear h1 FI
  obtain ⟨y0,_⟩:=ro_cf k.out 0 _ q0.out
  obtain ⟨y1,_⟩:=ro_cf k.out 1 _ q1.out
  obtain ⟨y2,_⟩:=ro_cf k.out 2 _ q2.out
  obtain ⟨y3,_⟩:=ro_cf k.out 3 _ q3.out
  obtain ⟨y4,_⟩:=ro_cf k.out 4 _ q4.out
  obtain ⟨y5,_⟩:=ro_cf k.out 5 _ q5.out
  obtain ⟨y6,_⟩:=ro_cf k.out 6 _ q6.out
  obtain ⟨y7,_⟩:=ro_cf k.out 7 _ q7.out
  have sz:=hb.out.size
  go_wp2_with fail
  refine (E1.out _ hb.out).mono ?_
  rintro e w2 ⟨A1,c1,rfl,oA,h1⟩
  have o1:=hide (oA.mono sz)
  replace hb:=hide (bel_next hb.out h1)
  replace k:=hide (k.out.below h1)
  clear h1 E1 oA sz y0 y1 y2 y3 y4 y5 y6 y7
  obtain ⟨y0,_⟩:=ro_cf k.out 0 _ q0.out
  obtain ⟨y8,_⟩:=ro_cf k.out 8 _ q8.out
  obtain ⟨y9,_⟩:=ro_cf k.out 9 _ q9.out
  obtain ⟨y10,_⟩:=ro_cf k.out 10 _ q10.out
  obtain ⟨y11,_⟩:=ro_cf k.out 11 _ q11.out
  obtain ⟨y12,_⟩:=ro_cf k.out 12 _ q12.out
  obtain ⟨y13,_⟩:=ro_cf k.out 13 _ q13.out
  obtain ⟨y14,_⟩:=ro_cf k.out 14 _ q14.out
  obtain ⟨y15,_⟩:=ro_cf k.out 15 _ q15.out
  go_upto_region 7 with fail
  have sz:=hb.out.size
  go_wp2_with fail
  refine (E2.out _ hb.out).mono ?_
  rintro e w3 ⟨A2,c2,rfl,oA,h1⟩
  have o2:=hide (oA.mono sz)
  replace o1:=hide (o1.out.below h1)
  replace hb:=hide (bel_next hb.out h1)
  replace k:=hide (k.out.below h1)
  clear h1 E2 oA sz y0 y8 y9 y10 y11 y12 y13 y14 y15
  obtain ⟨y15,_⟩:=ro_cf k.out 15 _ q15.out
  go_upto_region 8 with fail
  have kc:=Lib.run_convert_string_bytes (P:=Tryz.prog) w3 9 22 5 T2 Tryz.underlying9 Tryz.underlying22 Tryz.underlying5
  have rb:=hide (rd_bw w3 5 T2)
  have hbw:=Lib.bytesWorld_below w3 5 T2
  generalize grownCap w3 T2.size 0 5=cp at *
  rw [hl3.out] at rb
  generalize Lib.bytesWorld w3 5 T2=w4 at *
  replace o1:=hide (o1.out.below hbw)
  replace o2:=hide (o2.out.below hbw)
  replace hb:=hide (bel_next hb.out hbw)
  replace k:=hide (k.out.below hbw)
  clear hbw
  generalize w3.heap.size=g3 at *
  have CC:=hide (show Calls Tryz.prog 27 #[.slice (some ⟨w4.heap.size,0,none⟩) 3 3] (w4.alloc (.cells #[.slice A1 L1.length c1,.slice A2 L2.length c2,.slice (some ⟨g3,0,none⟩) T2.size cp] 22)) _ from sl_.Concat (some ⟨w4.heap.size,0,none⟩) 3 3 (L1++(L2++L3)).length [⟨A1,L1.length,c1⟩,⟨A2,L2.length,c2⟩,⟨some ⟨g3,0,none⟩,T2.size,cp⟩] [L1,L2,L3] (w4.alloc (.cells #[.slice A1 L1.length c1,.slice A2 L2.length c2,.slice (some ⟨g3,0,none⟩) T2.size cp] 22)) (rd_lm w4 [.slice A1 L1.length c1,.slice A2 L2.length c2,.slice (some ⟨g3,0,none⟩) T2.size cp] 22 (0,0)) rfl (fun j s hj=>by
   match j,hj with
   | 0,hj=>cases hj;exact ⟨_,rfl,(o1.out.alloc _).rd,o1.out.nilcap⟩
   | 1,hj=>cases hj;exact ⟨_,rfl,(o2.out.alloc _).rd,o2.out.nilcap⟩
   | 2,hj=>cases hj;exact ⟨_,rfl,rb.out.alloc _,fun h=>by cases h⟩
   | j+3,hj=>simp at hj) (by simp) (by have:=z1.out;have:=z2.out;have:=t4.out;rw [List.length_append,List.length_append,hl3s.out];omega) (by decide))
  rw [show [L1,L2,L3].flatten=L1++(L2++L3) by simp] at CC
  replace hb:=hide (bl_alloc hb.out (.cells #[.slice A1 L1.length c1,.slice A2 L2.length c2,.slice (some ⟨g3,0,none⟩) T2.size cp] 22))
  have sz:=hb.out.size
  clear o1 o2 rb k
  go_wp2_with fail
  refine CC.out.mono ?_
  rintro e w5 ⟨A5,c5,rfl,oA,h1⟩
  have o5:=hide (oA.mono sz)
  replace hb:=hide (bel_next hb.out h1)
  clear h1 oA sz CC kc y15
  go_wp2
  go_ret2
  exact ⟨A5,c5,by simp,o5.out,hb.out⟩
end zf_
def sB:Bk:=⟨[],[],[(0,false,0)],[0],[],[],[]⟩
theorem sB_ok:sB.ok:=⟨by simp [sB],bytes_of_mem (by decide),by simp [sB,ttOk],bytes_of_mem (by decide),by simp [sB]⟩
theorem sB_v (four:Bool) (k:Nat):vB sB four k=0:=by cases four <;> rfl
theorem sB_32:sB.few32:=⟨by decide,by decide,by decide,by decide,by decide,by decide⟩
theorem z_32:Bk.zero.few32:=⟨by decide,by decide,by decide,by decide,by decide,by decide⟩
def uL:List UInt8:=[85,84,67,48]
theorem sV1:vFile 1 sB Bk.zero []=0:=by
 unfold vFile
 rw [if_neg (by decide),if_neg (fun h=>h (sB_v _ _)),if_pos rfl]
 rfl
theorem sV2:vFile 2 sB sB uL=0:=by
 have e:ptParse uL=.ok ([85,84,67],0,false,[],0,rd0,rd0):=by rfl
 unfold vFile
 rw [if_neg (by decide),if_neg (fun h=>h (sB_v _ _)),if_neg (by decide),if_neg (fun h=>h (sB_v _ _))]
 unfold vF
 rw [if_neg (by decide),e]
 dsimp only
 unfold vFr
 rw [if_neg (by decide),if_pos (show sB.ti.length=0 from rfl)]
theorem sV3 (l:List UInt8):vFile 2 sB Bk.zero l=6:=by
 unfold vFile
 rw [if_neg (by decide),if_neg (fun h=>h (sB_v _ _)),if_neg (by decide),if_pos (by decide)]
 rfl
def oneL:List Int:=encF 1 sB Bk.zero []
def twoL:List Int:=encF 2 sB sB (fB uL)
theorem oneL_len:oneL.length=51:=rfl
theorem twoL_len:twoL.length=108:=rfl
theorem one_ok:VOk 1 sB Bk.zero []:=vFile_ok (s:=[]) sV1 sB_ok Bk.zero_ok sB_32 z_32
theorem two_ok:VOk 2 sB sB (fB uL):=vFile_ok sV2 sB_ok sB_ok sB_32 sB_32
theorem two_par:parF twoL=.ok (2,sB,sB,fB uL):=parse_enc two_ok
theorem one_more:parF (oneL++[0])=.error (2,51):=parse_ext one_ok 0 []
theorem two_cut:parF (twoL.take 107)=.error (1,107):=by
 have h1:partF (twoL.take 107) 0 0 4=(2,sB,51,0,0):=by rfl
 have h2:partF (twoL.take 107) 51 2 8=(2,sB,102,0,0):=by rfl
 rw [pa_5 h1 (by decide) h2]
 exact pt_3 (n:=102) (by decide) (by decide) (by decide)
def badL':List Int:=twoL.set 55 51
theorem two_bad:parF badL'=.error (4,55):=by
 have h1:partF badL' 0 0 4=(2,sB,51,0,0):=by rfl
 have h2:partF badL' 51 2 8=(0,Bk.zero,95,4,55):=by rfl
 rw [pa_4 h1 (by decide) h2 (by decide)]
theorem oneL_bytes:Bytes oneL:=bytes_of_mem (by decide)
theorem twoL_bytes:Bytes twoL:=bytes_of_mem (by decide)
theorem badL_bytes:Bytes badL':=bytes_of_mem (by decide)
end Go.Proofs.YtpapfpcehlhgeaaGreatDoor
