/-
  Texts of mine in one file: ZfA. Their conditions stand in the theorems.
-/
import Derived.Test.YtpapfpcehlhgeaaGreatDoorE02
import Derived.Test.YtpapfpcehlhgeaaGreatDoorE03
import Derived.Test.YtpapfpcehlhgeaaGreatDoorE04
import Derived.Test.YtpapfpcehlhgeaaGreatDoorE16
import Derived.Test.YtpapfpcehlhgeaaGreatDoorE18
import Derived.Laws.EntriesVeiled
import Derived.Deep.RegionHeld3
import Derived.Deep.DeepCutAuto
namespace Go.Proofs.YtpapfpcehlhgeaaGreatDoor
set_option linter.unusedVariables false
set_option linter.unusedSimpArgs false
set_option maxRecDepth 100000
set_option maxHeartbeats 16000000
open Go.ChangeShapes Go.WideShapes Go.ChangeAt Go.RowKit
def psA (A:Option Addr) (n c:Nat) (p e a s:Int) (h:Hd) (v:Int) (S S':BkS) (f:ByteArray):Array Value:=#[.slice A n c,.int .i64 p,.int .i64 e,.int .i64 a,.int .i64 s,.int .i64 h.ver,.int .u32 h.ut,.int .u32 h.sd,.int .u32 h.lp,.int .u32 h.tm,.int .u32 h.ty,.int .u32 h.ch,.int .i64 v,.slice S.ti.A S.ti.n S.ti.c,.slice S.ix.A S.ix.n S.ix.c,.slice S.ty.A S.ty.n S.ty.c,.slice S.ch.A S.ch.n S.ch.c,.slice S.lp.A S.lp.n S.lp.c,.slice S.sd.A S.sd.n S.sd.c,.slice S.ut.A S.ut.n S.ut.c,.slice S'.ti.A S'.ti.n S'.ti.c,.slice S'.ix.A S'.ix.n S'.ix.c,.slice S'.ty.A S'.ty.n S'.ty.c,.slice S'.ch.A S'.ch.n S'.ch.c,.slice S'.lp.A S'.lp.n S'.lp.c,.slice S'.sd.A S'.sd.n S'.sd.c,.slice S'.ut.A S'.ut.n S'.ut.c,.string f]
def T21 (w:World):Prop:=Tb w∧Tq w∧Th w
theorem T21.below {w w':World} (h:T21 w) (hb:Below w.heap.size w w'):T21 w':=⟨h.1.below hb,h.2.1.below hb,h.2.2.below hb⟩
structure PIn (w0:World) (A:Option Addr) (n c:Nat) (xs:List Int):Prop where
 t:T21 w0
 r:Rd w0 A n (xs.map (Value.int .u8))
 b:Bytes xs
 z:A=none→n=0∧c=0
 nc:n≤c
 cm:c≤9223372036854775807
 sm:n≤100000
theorem PIn.len {w0:World} {A:Option Addr} {n c:Nat} {xs:List Int} (I:PIn w0 A n c xs):xs.length=n:=by have:=I.r.len;simpa using this
def fe (e why:Int):Int:=if e≠0 then e else why
def fa (e a why at_:Int):Int:=if e≠0∨why=0 then a else at_
namespace zf_
theorem Fail_ (A:Option Addr) (n c:Nat) (p e a why at_:Int) (w:World) :
 Calls Tryz.prog 121 #[cu A n c p e a,.int .i64 why,.int .i64 at_] w fun z w'=>z=.returned (cu A n c p (fe e why) (fa e a why at_))∧Below w.heap.size w w':=by
 unfold fe fa
 by_cases he:e=0
 ·subst he
  by_cases hy:why=0
  ·subst hy
   rw [if_neg (fun h=>h rfl),if_pos (.inr rfl)]
   exact cu_.Fail_none A n c p a at_ w
  ·rw [if_neg (fun h=>h rfl),if_neg (fun h=>by rcases h with h | h;exact h rfl;exact hy h)]
   exact cu_.Fail_ok A n c p a why at_ w hy
 ·rw [if_pos he,if_pos (.inl he)]
  exact cu_.Fail_err A n c p e a why at_ w he
theorem fail (A:Option Addr) (n c:Nat) (p e a s:Int) (h:Hd) (v:Int) (S S':BkS) (f:ByteArray) (g:Nat) (why at_:Int) (w:World) (k:Ro w g (psA A n c p e a s h v S S' f) 57) :
 Calls Tryz.prog 75 #[.pointer (some ⟨g,0,none⟩),.int .i64 why,.int .i64 at_] w fun z w'=>z=.returned (.tuple #[])∧Ro w' g (psA A n c p (fe e why) (fa e a why at_) s h v S S' f) 57∧But g w w':=by
 have C:=hide (fun w=>Fail_ A n c p e a why at_ w)
 obtain ⟨cs,hcs⟩:∃ zz,zz=psA A n c p e a s h v S S' f:=⟨_,rfl⟩
 obtain ⟨cs1,hcs1⟩:∃ zz,zz=psA A n c p (fe e why) (fa e a why at_) s h v S S' f:=⟨_,rfl⟩
 have q0:=hide (show cs[0]?=some (.slice A n c) by rw [hcs];rfl)
 have q1:=hide (show cs[1]?=some (.int .i64 p) by rw [hcs];rfl)
 have q2:=hide (show cs[2]?=some (.int .i64 e) by rw [hcs];rfl)
 have q3:=hide (show cs[3]?=some (.int .i64 a) by rw [hcs];rfl)
 have N:=hide (show ((((cs.setIfInBounds 0 (.slice A n c)).setIfInBounds 1 (.int .i64 p)).setIfInBounds 2 (.int .i64 (fe e why))).setIfInBounds 3 (.int .i64 (fa e a why at_)))=cs1 by rw [hcs,hcs1];unfold psA;simp only [List.setIfInBounds_toArray];rfl)
 rw [← hcs] at k
 rw [← hcs1]
 clear hcs hcs1
 replace k:=hide k
 generalize fe e why=e' at *
 generalize fa e a why at_=a' at *
 obtain ⟨y0,z0⟩:=ro_cf k.out 0 _ q0.out
 obtain ⟨y1,z1⟩:=ro_cf k.out 1 _ q1.out
 obtain ⟨y2,z2⟩:=ro_cf k.out 2 _ q2.out
 obtain ⟨y3,z3⟩:=ro_cf k.out 3 _ q3.out
 go_enter Tryz.func75,Tryz.ntmps75
 go_wp2_with fail
 refine (C.out _).mono ?_
 rintro z w1 ⟨rfl,h1⟩
 replace k:=hide (k.out.below h1)
 have hB:=hide (But.of (b:=g) h1)
 clear C h1
 clear y0 z0 y1 z1 y2 z2 y3 z3
 obtain ⟨y0,z0⟩:=ro_cf k.out 0 _ q0.out
 obtain ⟨y1,z1⟩:=ro_cf k.out 1 _ q1.out
 obtain ⟨y2,z2⟩:=ro_cf k.out 2 _ q2.out
 obtain ⟨y3,z3⟩:=ro_cf k.out 3 _ q3.out
 go_wp2_with fail
 go_end0
 exact ⟨rfl,by have:=(ro_set (ro_set (ro_set (ro_set k.out 0 (.slice A n c)) 1 (.int .i64 p)) 2 (.int .i64 e')) 3 (.int .i64 a'));rwa [N.out] at this,((((hB.out.set (o:=0) (.slice A n c)).set (o:=1) (.int .i64 p)).set (o:=2) (.int .i64 e')).set (o:=3) (.int .i64 a'))⟩
theorem readHeader {w0:World} {A:Option Addr} {n c:Nat} {xs:List Int} (I:PIn w0 A n c xs) (g p:Nat) (s:Int) (h:Hd) (v:Int) (S S':BkS) (f:ByteArray) (w:World) (hg:w0.heap.size≤g) (hl:Below w0.heap.size w0 w) (hp:p≤n) {h':Hd} {q e a:Int} (hd:decH xs p=(h',q,e,a)) (k:Ro w g (psA A n c p 0 0 s h v S S' f) 57) :
 Calls Tryz.prog 33 #[.pointer (some ⟨g,0,none⟩)] w fun z w'=>z=.returned (.tuple #[])∧Ro w' g (psA A n c q e a p h' v S S' f) 57∧But g w w':=by
 have C:=hide (fun W (hW:Below w0.heap.size w0 W)=>hd_.Decode A n c p xs W (I.t.2.2.below hW) (I.r.below hW) I.b I.z I.nc I.cm (by have:=I.sm;omega) hp hd)
 dsimp only [Hd.val] at C
 obtain ⟨cs,hcs⟩:∃ zz,zz=psA A n c p 0 0 s h v S S' f:=⟨_,rfl⟩
 obtain ⟨cs1,hcs1⟩:∃ zz,zz=psA A n c p 0 0 p h v S S' f:=⟨_,rfl⟩
 obtain ⟨cs2,hcs2⟩:∃ zz,zz=psA A n c q e a p h' v S S' f:=⟨_,rfl⟩
 have q1:=hide (show cs[1]?=some (.int .i64 p) by rw [hcs];rfl)
 have q4:=hide (show cs[4]?=some (.int .i64 s) by rw [hcs];rfl)
 have r0:=hide (show cs1[0]?=some (.slice A n c) by rw [hcs1];rfl)
 have r1:=hide (show cs1[1]?=some (.int .i64 p) by rw [hcs1];rfl)
 have r2:=hide (show cs1[2]?=some (.int .i64 0) by rw [hcs1];rfl)
 have r3:=hide (show cs1[3]?=some (.int .i64 0) by rw [hcs1];rfl)
 have r5:=hide (show cs1[5]?=some (.int .i64 h.ver) by rw [hcs1];rfl)
 have r6:=hide (show cs1[6]?=some (.int .u32 h.ut) by rw [hcs1];rfl)
 have r7:=hide (show cs1[7]?=some (.int .u32 h.sd) by rw [hcs1];rfl)
 have r8:=hide (show cs1[8]?=some (.int .u32 h.lp) by rw [hcs1];rfl)
 have r9:=hide (show cs1[9]?=some (.int .u32 h.tm) by rw [hcs1];rfl)
 have r10:=hide (show cs1[10]?=some (.int .u32 h.ty) by rw [hcs1];rfl)
 have r11:=hide (show cs1[11]?=some (.int .u32 h.ch) by rw [hcs1];rfl)
 have N:=hide (show (cs.setIfInBounds 4 (.int .i64 p))=cs1 by rw [hcs,hcs1];unfold psA;simp only [List.setIfInBounds_toArray];rfl)
 have M:=hide (show (((((((((((cs1.setIfInBounds 5 (.int .i64 h'.ver)).setIfInBounds 6 (.int .u32 h'.ut)).setIfInBounds 7 (.int .u32 h'.sd)).setIfInBounds 8 (.int .u32 h'.lp)).setIfInBounds 9 (.int .u32 h'.tm)).setIfInBounds 10 (.int .u32 h'.ty)).setIfInBounds 11 (.int .u32 h'.ch)).setIfInBounds 0 (.slice A n c)).setIfInBounds 1 (.int .i64 q)).setIfInBounds 2 (.int .i64 e)).setIfInBounds 3 (.int .i64 a))=cs2 by rw [hcs1,hcs2];unfold psA;simp only [List.setIfInBounds_toArray];rfl)
 rw [← hcs] at k
 rw [← hcs2]
 clear hcs hcs1 hcs2 hd
 replace k:=hide k
 replace hl:=hide hl
 obtain ⟨y1,z1⟩:=ro_cf k.out 1 _ q1.out
 obtain ⟨y4,z4⟩:=ro_cf k.out 4 _ q4.out
 go_enter Tryz.func33,Tryz.ntmps33
 go_upto_region 1 with fail
 clear y1 z1 y4 z4
 replace k:=hide (show Ro (w.setCell ⟨g,4,none⟩ (.int .i64 p)) g cs1 57 from by have:=ro_set k.out 4 (.int .i64 p);rwa [N.out] at this)
 have hB:=hide ((But.refl g w).set (o:=4) (.int .i64 p))
 replace hl:=hide (bl_set hl.out hg (o:=4) (.int .i64 p))
 generalize w.setCell ⟨g,4,none⟩ (.int .i64 p)=u at *
 obtain ⟨y0,z0⟩:=ro_cf k.out 0 _ r0.out
 obtain ⟨y1,z1⟩:=ro_cf k.out 1 _ r1.out
 obtain ⟨y2,z2⟩:=ro_cf k.out 2 _ r2.out
 obtain ⟨y3,z3⟩:=ro_cf k.out 3 _ r3.out
 obtain ⟨y5,z5⟩:=ro_cf k.out 5 _ r5.out
 obtain ⟨y6,z6⟩:=ro_cf k.out 6 _ r6.out
 obtain ⟨y7,z7⟩:=ro_cf k.out 7 _ r7.out
 obtain ⟨y8,z8⟩:=ro_cf k.out 8 _ r8.out
 obtain ⟨y9,z9⟩:=ro_cf k.out 9 _ r9.out
 obtain ⟨y10,z10⟩:=ro_cf k.out 10 _ r10.out
 obtain ⟨y11,z11⟩:=ro_cf k.out 11 _ r11.out
 go_wp2_with fail
 refine (C.out _ hl.out).mono ?_
 rintro z w1 ⟨rfl,h1⟩
 replace k:=hide (k.out.below h1)
 replace hB:=hide (hB.out.next h1)
 clear C h1
 clear y0 z0 y1 z1 y2 z2 y3 z3 y5 z5 y6 z6 y7 z7 y8 z8 y9 z9 y10 z10 y11 z11
 obtain ⟨y0,z0⟩:=ro_cf k.out 0 _ r0.out
 obtain ⟨y1,z1⟩:=ro_cf k.out 1 _ r1.out
 obtain ⟨y2,z2⟩:=ro_cf k.out 2 _ r2.out
 obtain ⟨y3,z3⟩:=ro_cf k.out 3 _ r3.out
 obtain ⟨y5,z5⟩:=ro_cf k.out 5 _ r5.out
 obtain ⟨y6,z6⟩:=ro_cf k.out 6 _ r6.out
 obtain ⟨y7,z7⟩:=ro_cf k.out 7 _ r7.out
 obtain ⟨y8,z8⟩:=ro_cf k.out 8 _ r8.out
 obtain ⟨y9,z9⟩:=ro_cf k.out 9 _ r9.out
 obtain ⟨y10,z10⟩:=ro_cf k.out 10 _ r10.out
 obtain ⟨y11,z11⟩:=ro_cf k.out 11 _ r11.out
 go_wp2_with fail
 go_end0
 exact ⟨rfl,by have:=(ro_set (ro_set (ro_set (ro_set (ro_set (ro_set (ro_set (ro_set (ro_set (ro_set (ro_set k.out 5 (.int .i64 h'.ver)) 6 (.int .u32 h'.ut)) 7 (.int .u32 h'.sd)) 8 (.int .u32 h'.lp)) 9 (.int .u32 h'.tm)) 10 (.int .u32 h'.ty)) 11 (.int .u32 h'.ch)) 0 (.slice A n c)) 1 (.int .i64 q)) 2 (.int .i64 e)) 3 (.int .i64 a));rwa [M.out] at this,(((((((((((hB.out.set (o:=5) (.int .i64 h'.ver)).set (o:=6) (.int .u32 h'.ut)).set (o:=7) (.int .u32 h'.sd)).set (o:=8) (.int .u32 h'.lp)).set (o:=9) (.int .u32 h'.tm)).set (o:=10) (.int .u32 h'.ty)).set (o:=11) (.int .u32 h'.ch)).set (o:=0) (.slice A n c)).set (o:=1) (.int .i64 q)).set (o:=2) (.int .i64 e)).set (o:=3) (.int .i64 a))⟩
theorem firstHeader {w0:World} {A:Option Addr} {n c:Nat} {xs:List Int} (I:PIn w0 A n c xs) (g p:Nat) (s:Int) (h:Hd) (v:Int) (S S':BkS) (f:ByteArray) (w:World) (hg:w0.heap.size≤g) (hl:Below w0.heap.size w0 w) (hp:p≤n) {h':Hd} {q e a:Int} (hd:decH xs p=(h',q,e,a)) (k:Ro w g (psA A n c p 0 0 s h v S S' f) 57) :
 Calls Tryz.prog 20 #[.pointer (some ⟨g,0,none⟩)] w fun z w'=>z=.returned (.tuple #[])∧Ro w' g (psA A n c q e a p h' h'.ver S S' f) 57∧But g w w':=by
 have C:=hide (fun w hl k=>readHeader I g p s h v S S' f w hg hl hp hd k)
 obtain ⟨cs1,hcs1⟩:∃ zz,zz=psA A n c q e a p h' v S S' f:=⟨_,rfl⟩
 obtain ⟨cs2,hcs2⟩:∃ zz,zz=psA A n c q e a p h' h'.ver S S' f:=⟨_,rfl⟩
 have r5:=hide (show cs1[5]?=some (.int .i64 h'.ver) by rw [hcs1];rfl)
 have r12:=hide (show cs1[12]?=some (.int .i64 v) by rw [hcs1];rfl)
 have M:=hide (show (cs1.setIfInBounds 12 (.int .i64 h'.ver))=cs2 by rw [hcs1,hcs2];unfold psA;simp only [List.setIfInBounds_toArray];rfl)
 rw [← hcs1] at C
 rw [← hcs2]
 clear hcs1 hcs2 hd
 generalize psA A n c p 0 0 s h v S S' f=cs at *
 replace k:=hide k
 replace hl:=hide hl
 go_enter Tryz.func20,Tryz.ntmps20
 go_wp2_with fail
 refine (C.out _ hl.out k.out).mono ?_
 rintro z w1 ⟨rfl,k1,hB⟩
 clear k C
 have k:=hide k1
 replace hB:=hide hB
 clear k1
 obtain ⟨y5,z5⟩:=ro_cf k.out 5 _ r5.out
 obtain ⟨y12,z12⟩:=ro_cf k.out 12 _ r12.out
 go_wp2_with fail
 go_end0
 exact ⟨rfl,by have:=ro_set k.out 12 (.int .i64 h'.ver);rwa [M.out] at this,hB.out.set _⟩
theorem secondHeader {w0:World} {A:Option Addr} {n c:Nat} {xs:List Int} (I:PIn w0 A n c xs) (g p:Nat) (s:Int) (h:Hd) (v:Int) (S S':BkS) (f:ByteArray) (w:World) (hg:w0.heap.size≤g) (hl:Below w0.heap.size w0 w) (hp:p≤n) {h':Hd} {q e a:Int} (hd:decH xs p=(h',q,e,a)) (k:Ro w g (psA A n c p 0 0 s h v S S' f) 57) :
 Calls Tryz.prog 36 #[.pointer (some ⟨g,0,none⟩)] w fun z w'=>z=.returned (.tuple #[])∧Ro w' g (psA A n c q (fe e (if h'.ver=v then 0 else 4)) (fa e a (if h'.ver=v then 0 else 4) ((p:Int)+4)) p h' v S S' f) 57∧But g w w':=by
 have C:=hide (fun w hl k=>readHeader I g p s h v S S' f w hg hl hp hd k)
 have iw:IntKind.i64.wrap ((p:Int)+4)=(p:Int)+4:=by have:=I.sm;rw [IntKind.wrap_i64];omega
 by_cases hv:h'.ver=v
 ·have F:=hide (fun w=>fail A n c q e a p h' v S S' f g 4 ((p:Int)+4) w)
  obtain ⟨cs1,hcs1⟩:∃ zz,zz=psA A n c q e a p h' v S S' f:=⟨_,rfl⟩
  obtain ⟨cs2,hcs2⟩:∃ zz,zz=psA A n c q (fe e (if h'.ver=v then 0 else 4)) (fa e a (if h'.ver=v then 0 else 4) ((p:Int)+4)) p h' v S S' f:=⟨_,rfl⟩
  have r4:=hide (show cs1[4]?=some (.int .i64 p) by rw [hcs1];rfl)
  have r5:=hide (show cs1[5]?=some (.int .i64 h'.ver) by rw [hcs1];rfl)
  have r12:=hide (show cs1[12]?=some (.int .i64 v) by rw [hcs1];rfl)
  rw [← hcs1] at C F
  have E:cs2=cs1:=by rw [hcs2,hcs1,if_pos hv];unfold fe fa;by_cases he:e=0;rw [if_neg (fun h=>h he),if_pos (.inr rfl),he];rw [if_pos he,if_pos (.inl he)]
  rw [← hcs2,E]
  have dv:decide (h'.ver=v)=true:=decide_eq_true hv
  have dv2:(h'.ver != v)=false:=by simpa using hv
  clear hcs1 hcs2 hd
  replace hv:=hide hv
  generalize psA A n c p 0 0 s h v S S' f=cs at *
  replace k:=hide k
  replace hl:=hide hl
  go_enter Tryz.func36,Tryz.ntmps36
  go_wp2_with fail
  refine (C.out _ hl.out k.out).mono ?_
  rintro z w1 ⟨rfl,k1,hB⟩
  clear k C
  have k:=hide k1
  replace hB:=hide hB
  clear k1
  obtain ⟨y4,z4⟩:=ro_cf k.out 4 _ r4.out
  obtain ⟨y5,z5⟩:=ro_cf k.out 5 _ r5.out
  obtain ⟨y12,z12⟩:=ro_cf k.out 12 _ r12.out
  go_upto_region 1 with fail
  have kd:=hide k.out.drew
  have hBd:=hide hB.out.drew
  go_region
  go_wp2
  go_end0
  exact ⟨rfl,kd.out,hBd.out⟩
 ·have F:=hide (fun w=>fail A n c q e a p h' v S S' f g 4 ((p:Int)+4) w)
  obtain ⟨cs1,hcs1⟩:∃ zz,zz=psA A n c q e a p h' v S S' f:=⟨_,rfl⟩
  obtain ⟨cs2,hcs2⟩:∃ zz,zz=psA A n c q (fe e (if h'.ver=v then 0 else 4)) (fa e a (if h'.ver=v then 0 else 4) ((p:Int)+4)) p h' v S S' f:=⟨_,rfl⟩
  have r4:=hide (show cs1[4]?=some (.int .i64 p) by rw [hcs1];rfl)
  have r5:=hide (show cs1[5]?=some (.int .i64 h'.ver) by rw [hcs1];rfl)
  have r12:=hide (show cs1[12]?=some (.int .i64 v) by rw [hcs1];rfl)
  rw [← hcs1] at C F
  rw [if_neg hv] at hcs2
  rw [if_neg hv,← hcs2]
  rw [← hcs2] at F
  have dv:decide (h'.ver=v)=false:=decide_eq_false hv
  have dv2:(h'.ver != v)=true:=by simpa using hv
  clear hcs1 hcs2 hd
  replace hv:=hide hv
  generalize psA A n c p 0 0 s h v S S' f=cs at *
  replace k:=hide k
  replace hl:=hide hl
  go_enter Tryz.func36,Tryz.ntmps36
  go_wp2_with fail
  refine (C.out _ hl.out k.out).mono ?_
  rintro z w1 ⟨rfl,k1,hB⟩
  clear k C
  have k:=hide k1
  replace hB:=hide hB
  clear k1
  obtain ⟨y4,z4⟩:=ro_cf k.out 4 _ r4.out
  obtain ⟨y5,z5⟩:=ro_cf k.out 5 _ r5.out
  obtain ⟨y12,z12⟩:=ro_cf k.out 12 _ r12.out
  go_upto_region 1 with fail
  have kd:=hide k.out.drew
  have hBd:=hide hB.out.drew
  go_region
  go_upto_region 2 with fail
  clear y4 z4 y5 z5 y12 z12
  clear k hB
  have k:=kd
  have hB:=hBd
  clear kd hBd
  generalize w1.drew=u at *
  obtain ⟨y4,z4⟩:=ro_cf k.out 4 _ r4.out
  go_wp2_with fail
  refine (F.out _ k.out).mono ?_
  rintro z w2 ⟨rfl,k2,hB2⟩
  replace hB2:=hide hB2
  replace k2:=hide k2
  go_wp2
  go_end0
  exact ⟨rfl,k2.out,hB.out.trans hB2.out⟩
end zf_
end Go.Proofs.YtpapfpcehlhgeaaGreatDoor
