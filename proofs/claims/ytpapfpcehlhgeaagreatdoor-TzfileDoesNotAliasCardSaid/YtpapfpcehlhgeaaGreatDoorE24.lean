/-
  Texts of mine in one file: R21s, Fw20, Ref9, Ref9n, Ref9d, Ref9e, Ref9f, Ref9g, Ref9h, Ref20f, Law19w, Lw21, Lw21h, Lw21e. Their conditions stand in the theorems.
-/
import Derived.Test.YtpapfpcehlhgeaaGreatDoorE04
import Derived.Test.YtpapfpcehlhgeaaGreatDoorE03
import Derived.Test.YtpapfpcehlhgeaaGreatDoorE17
import Derived.Test.YtpapfpcehlhgeaaGreatDoorE07
import Derived.Deep.RegionHeld3
import Derived.Deep.DeepCutAuto
import Derived.Test.YtpapfpcehlhgeaaGreatDoorE02
import Derived.Test.YtpapfpcehlhgeaaGreatDoorE11
import Derived.Test.YtpapfpcehlhgeaaGreatDoorE18
import Derived.Test.YtpapfpcehlhgeaaGreatDoorE23
namespace Go.Proofs.YtpapfpcehlhgeaaGreatDoor
set_option linter.unusedVariables false
set_option linter.unusedSimpArgs false
set_option maxRecDepth 100000
set_option maxHeartbeats 16000000
open Go.ChangeShapes Go.WideShapes Go.ChangeAt Go.RowKit
theorem few_small {w:World} {S:BkS} {b:Bk} (h:IsBk w S b) (hf:fewB b=true):S.small:=by
 obtain ⟨l0,l1,l2,l3,l4,l5,l6⟩:=h.lens
 unfold fewB at hf
 simp only [Bool.and_eq_true,decide_eq_true_eq] at hf
 obtain ⟨⟨⟨⟨⟨⟨a0,a1⟩,a2⟩,a3⟩,a4⟩,a5⟩,a6⟩:=hf
 exact ⟨by omega,by omega,by omega,by omega,by omega,by omega,by omega⟩
namespace r20_
theorem Few (v:Int) (S S':BkS) (f:ByteArray) (A B:Bk) (w:World) (h:IsBk w S A) (h':IsBk w S' B):Calls Tryz.prog 9 #[.agg (flA v S S' f)] w fun e w'=>e=.returned (.bool (fewB A && fewB B && decide (f.size≤600)))∧Below w.heap.size w w':=by
 have F1:=hide (fun W (hb:Below w.heap.size w W)=>r19_.Few S A W (h.below hb))
 have F2:=hide (fun W (hb:Below w.heap.size w W)=>r19_.Few S' B W (h'.below hb))
 clear h h'
 obtain ⟨⟨A0,n0,c0⟩,⟨A1,n1,c1⟩,⟨A2,n2,c2⟩,⟨A3,n3,c3⟩,⟨A4,n4,c4⟩,⟨A5,n5,c5⟩,⟨A6,n6,c6⟩⟩:=S
 obtain ⟨⟨xA0,xn0,xc0⟩,⟨xA1,xn1,xc1⟩,⟨xA2,xn2,xc2⟩,⟨xA3,xn3,xc3⟩,⟨xA4,xn4,xc4⟩,⟨xA5,xn5,xc5⟩,⟨xA6,xn6,xc6⟩⟩:=S'
 dsimp only [bkV] at F1 F2
 obtain ⟨cs,hcs⟩:∃ cs,cs=flA v ⟨⟨A0,n0,c0⟩,⟨A1,n1,c1⟩,⟨A2,n2,c2⟩,⟨A3,n3,c3⟩,⟨A4,n4,c4⟩,⟨A5,n5,c5⟩,⟨A6,n6,c6⟩⟩ ⟨⟨xA0,xn0,xc0⟩,⟨xA1,xn1,xc1⟩,⟨xA2,xn2,xc2⟩,⟨xA3,xn3,xc3⟩,⟨xA4,xn4,xc4⟩,⟨xA5,xn5,xc5⟩,⟨xA6,xn6,xc6⟩⟩ f:=⟨_,rfl⟩
 have q1:=hide (show cs[1]?=some (.slice A0 n0 c0) by rw [hcs];rfl)
 have q2:=hide (show cs[2]?=some (.slice A1 n1 c1) by rw [hcs];rfl)
 have q3:=hide (show cs[3]?=some (.slice A2 n2 c2) by rw [hcs];rfl)
 have q4:=hide (show cs[4]?=some (.slice A3 n3 c3) by rw [hcs];rfl)
 have q5:=hide (show cs[5]?=some (.slice A4 n4 c4) by rw [hcs];rfl)
 have q6:=hide (show cs[6]?=some (.slice A5 n5 c5) by rw [hcs];rfl)
 have q7:=hide (show cs[7]?=some (.slice A6 n6 c6) by rw [hcs];rfl)
 have q8:=hide (show cs[8]?=some (.slice xA0 xn0 xc0) by rw [hcs];rfl)
 have q9:=hide (show cs[9]?=some (.slice xA1 xn1 xc1) by rw [hcs];rfl)
 have q10:=hide (show cs[10]?=some (.slice xA2 xn2 xc2) by rw [hcs];rfl)
 have q11:=hide (show cs[11]?=some (.slice xA3 xn3 xc3) by rw [hcs];rfl)
 have q12:=hide (show cs[12]?=some (.slice xA4 xn4 xc4) by rw [hcs];rfl)
 have q13:=hide (show cs[13]?=some (.slice xA5 xn5 xc5) by rw [hcs];rfl)
 have q14:=hide (show cs[14]?=some (.slice xA6 xn6 xc6) by rw [hcs];rfl)
 have q15:=hide (show cs[15]?=some (.string f) by rw [hcs];rfl)
 rw [← hcs]
 clear hcs
 obtain ⟨z,hz⟩:∃ z,z=decide (f.size≤600):=⟨_,rfl⟩
 rw [← hz]
 have z1:decide ((f.size:Int)≤600)=z:=by rw [hz,decide_eq_decide];omega
 have z2:=hz.symm
 clear hz
 have k:=hide (Ro.new w cs 30)
 have hb:=hide (bl_new w (.cells cs 30))
 generalize fewB A=a at *
 generalize fewB B=b at *
 cases a
 ·go_enter Tryz.func9,Tryz.ntmps9
  go_upto_region 1 with fail
  generalize (w.alloc (.cells cs 30))=u at *
  obtain ⟨y1,_⟩:=ro_cf k.out 1 _ q1.out
  obtain ⟨y2,_⟩:=ro_cf k.out 2 _ q2.out
  obtain ⟨y3,_⟩:=ro_cf k.out 3 _ q3.out
  obtain ⟨y4,_⟩:=ro_cf k.out 4 _ q4.out
  obtain ⟨y5,_⟩:=ro_cf k.out 5 _ q5.out
  obtain ⟨y6,_⟩:=ro_cf k.out 6 _ q6.out
  obtain ⟨y7,_⟩:=ro_cf k.out 7 _ q7.out
  go_wp2_with fail
  refine (F1.out _ hb.out).mono ?_
  rintro e w1 ⟨rfl,h1⟩
  replace hb:=hide (bel_next hb.out h1)
  clear h1 y1 y2 y3 y4 y5 y6 y7
  go_wp2
  go_ret
  exact ⟨rfl,hb.out⟩
 ·cases b
  all_goals
   go_enter Tryz.func9,Tryz.ntmps9
   go_upto_region 1 with fail
   generalize (w.alloc (.cells cs 30))=u at *
   obtain ⟨y1,_⟩:=ro_cf k.out 1 _ q1.out
   obtain ⟨y2,_⟩:=ro_cf k.out 2 _ q2.out
   obtain ⟨y3,_⟩:=ro_cf k.out 3 _ q3.out
   obtain ⟨y4,_⟩:=ro_cf k.out 4 _ q4.out
   obtain ⟨y5,_⟩:=ro_cf k.out 5 _ q5.out
   obtain ⟨y6,_⟩:=ro_cf k.out 6 _ q6.out
   obtain ⟨y7,_⟩:=ro_cf k.out 7 _ q7.out
   go_wp2_with fail
   refine (F1.out _ hb.out).mono ?_
   rintro e w1 ⟨rfl,h1⟩
   replace hb:=hide (bel_next hb.out h1)
   replace k:=hide (k.out.below h1)
   clear h1 y1 y2 y3 y4 y5 y6 y7
   obtain ⟨y8,_⟩:=ro_cf k.out 8 _ q8.out
   obtain ⟨y9,_⟩:=ro_cf k.out 9 _ q9.out
   obtain ⟨y10,_⟩:=ro_cf k.out 10 _ q10.out
   obtain ⟨y11,_⟩:=ro_cf k.out 11 _ q11.out
   obtain ⟨y12,_⟩:=ro_cf k.out 12 _ q12.out
   obtain ⟨y13,_⟩:=ro_cf k.out 13 _ q13.out
   obtain ⟨y14,_⟩:=ro_cf k.out 14 _ q14.out
   go_wp2_with fail
   refine (F2.out _ hb.out).mono ?_
   rintro e w2 ⟨rfl,h1⟩
   replace hb:=hide (bel_next hb.out h1)
   replace k:=hide (k.out.below h1)
   clear h1 y8 y9 y10 y11 y12 y13 y14
   obtain ⟨y15,_⟩:=ro_cf k.out 15 _ q15.out
   go_wp2
   go_ret
   exact ⟨rfl,hb.out⟩
end r20_
theorem bytes_set {l:List Int} (h:Bytes l) (j:Nat) {v:Int} (h0:0≤v) (h1:v<256):Bytes (l.set j v):=bytes_of_mem fun x hx=>by
 rcases List.mem_or_eq_of_mem_set hx with hx | rfl
 ·exact h.mem x hx
 ·exact ⟨h0,h1⟩
theorem u8w (x:Int):0≤IntKind.u8.wrap x∧IntKind.u8.wrap x<256:=by
 have:IntKind.u8.wrap x=x % 256:=by simp [IntKind.wrap,IntKind.bits,IntKind.signed]
 omega
theorem ow_poke {w:World} {b:Nat} {e:TypeId} {A:Option Addr} {n c:Nat} {l:List Int} (h:Ow w b e A n c (l.map (Value.int .u8))) (hl:Bytes l) (g j:Nat) {v:Int} (h0:0≤v) (h1:v<256) :
 ∃ l',Bytes l'∧Ow (w.setCell ⟨g,j,none⟩ (.int .u8 v)) b e A n c (l'.map (Value.int .u8)):=by
 by_cases hg:some g=(Value.slice A n c).ownBlock
 ·rcases h.2.2 with ⟨h0',_⟩ | ⟨g',cap,cur,e1,_⟩
  ·injection h0' with h0'
   subst h0'
   cases hg
  ·injection e1 with e1
   subst e1
   have hgg:g=g':=by injection hg
   subst hgg
   exact ⟨l.set j v,bytes_set hl j h0 h1,by rw [List.map_set];exact h.set j _⟩
 ·exact ⟨l,hl,ow_setNe h hg j _⟩
theorem few32_of {b:Bk} (h:b.le 1000):b.few32:=by
 obtain ⟨a0,a1,a2,a3,a4,a5,a6⟩:=h
 exact ⟨by omega,by omega,by omega,by omega,by omega,by omega⟩
theorem few_len {v:Int} {A B:Bk} {ft:List Int} (h:VOk v A B ft) (ha:A.le 1000) (hb:B.le 1000) (hf:ft.length≤600):(encF v A B ft).length≤90000:=by
 rw [encF_len h]
 obtain ⟨a0,a1,a2,a3,a4,a5,a6⟩:=ha
 obtain ⟨b0,b1,b2,b3,b4,b5,b6⟩:=hb
 unfold totB tot
 split <;> omega
theorem own_lt {W:World} {b n c:Nat} {e:TypeId} {A:Option Addr} {l:List Value} (h:Ow W b e A n c l):∀ g,A=some ⟨g,0,none⟩→g<W.heap.size:=fun g e=>(h.lt g (by rw [e];rfl)).2
theorem own_ge {W:World} {b n c:Nat} {e:TypeId} {A:Option Addr} {l:List Value} (h:Ow W b e A n c l):∀ g,A=some ⟨g,0,none⟩→b≤g:=fun g e=>(h.lt g (by rw [e];rfl)).1
theorem serL_len {v:Int} {A B:Bk} {s:List UInt8} (ha:A.ok) (hb:B.ok) (h1:A.le 1000) (h2:B.le 1000) (hs:s.length≤600):(serL v A B s).length≤90000:=by
 unfold serL
 split
 ·rename_i h
  exact few_len (vFile_ok h ha hb (few32_of h1) (few32_of h2)) h1 h2 (by rw [fB_len];exact hs)
 ·exact Nat.zero_le _
theorem serL_by {v:Int} {A B:Bk} {s:List UInt8} (ha:A.ok) (hb:B.ok) (h1:A.le 1000) (h2:B.le 1000):Bytes (serL v A B s):=by
 unfold serL
 split
 ·rename_i h
  exact encF_bytes (vFile_ok h ha hb (few32_of h1) (few32_of h2)) (fB_bytes _)
 ·exact bytes_of_mem (by simp)
end Go.Proofs.YtpapfpcehlhgeaaGreatDoor
