/-
  Texts of mine in one file: TwO, LwO, BwO. Their conditions stand in the theorems.
-/
import Derived.Test.YtpapfpcehlhgeaaGreatDoorE01
import Derived.Test.YtpapfpcehlhgeaaGreatDoorRows
import Derived.ChangeSlices
import Derived.DataReads
import Derived.Deep.Grids
namespace Go.Proofs.YtpapfpcehlhgeaaGreatDoor
set_option linter.unusedVariables false
set_option linter.unusedSimpArgs false
set_option maxRecDepth 100000
set_option maxHeartbeats 16000000
open Go.ChangeShapes Go.WideShapes Go.ChangeAt Go.RowKit
def IsTw (w:World) (a:Option Addr) (len cap:Nat) (ts:List TT):Prop :=
 (a=none→len=0∧cap=0)∧len≤cap∧cap≤9223372036854775807∧Rk 3 w a len (tcs ts)∧∀ t ∈ ts,ttOk t
theorem IsTw.len {w:World} {a:Option Addr} {len cap:Nat} {ts:List TT} (h:IsTw w a len cap ts):ts.length=len:=by have:=h.2.2.2.1.len;rw [tcs_len] at this;omega
section
variable {H:Type} {enc:TypeId × Value→H} {w:World} {base:Nat} {held:Bool} {spare:Nat→Bool}
theorem open_tt {fuel:Nat} {c0 c1 c2:Value} {x:DataW H × List MemPlace} (h:DataW.trod enc Tryz.prog w base spare held fuel 156 [c0,c1,c2]=some x):∃ t:TT,ttOk t∧c0=.int .i32 t.1∧c1=.bool t.2.1∧c2=.int .u8 t.2.2:=by
 obtain ⟨xs,n,_,_,_,hl,hx⟩:=DataW.trod_struct Tryz.underlying156 h
 simp at hl
 obtain ⟨y0,e0⟩:∃ y,xs[0]?=some y:=⟨_,List.getElem?_eq_getElem (by omega)⟩
 obtain ⟨y1,e1⟩:∃ y,xs[1]?=some y:=⟨_,List.getElem?_eq_getElem (by omega)⟩
 obtain ⟨y2,e2⟩:∃ y,xs[2]?=some y:=⟨_,List.getElem?_eq_getElem (by omega)⟩
 have g0:DataW.trod enc Tryz.prog w base spare held n 21 [c0]=some y0:=by rw [← e0];exact hx 0 _ rfl
 have g1:DataW.trod enc Tryz.prog w base spare held n 4 [c1]=some y1:=by rw [← e1];exact hx 1 _ rfl
 have g2:DataW.trod enc Tryz.prog w base spare held n 5 [c2]=some y2:=by rw [← e2];exact hx 2 _ rfl
 obtain ⟨a0,q0,_,w0⟩:=DataW.trod_int Tryz.underlying21 g0
 obtain ⟨a1,q1,_⟩:=DataW.trod_bool Tryz.underlying4 g1
 obtain ⟨a2,q2,_,w2⟩:=DataW.trod_int Tryz.underlying5 g2
 simp at q0 q1 q2
 refine ⟨(a0,a1,a2),?_,q0,q1,q2⟩
 simp [Lit.wf,IntKind.min,IntKind.max,IntKind.signed,IntKind.bits] at w0 w2
 unfold ttOk
 dsimp only
 omega
theorem open_tw {fuel:Nat} {a:Option Addr} {len cap:Nat} {x:DataW H × List MemPlace} (h:DataW.trod enc Tryz.prog w base spare held fuel 24 [.slice a len cap]=some x):∃ ts,IsTw w a len cap ts:=by
 rcases DataW.trod_slice Tryz.underlying24 h with ⟨hcs,_⟩ | ⟨ad,l,c,elems,rest,n,_,hcs,_,_,hl,hm,hlen,hel,_,_⟩
 ·simp at hcs
  obtain ⟨rfl,rfl,rfl⟩:=hcs
  exact ⟨[],fun _=>⟨rfl,rfl⟩,Nat.le_refl _,by decide,Rk.none_ 3 w,by simp⟩
 ·simp at hcs
  obtain ⟨rfl,rfl,rfl⟩:=hcs
  have hC:Program.cellsOf Tryz.prog 156=3:=by kernel_rfl
  rw [hC] at hel
  have one:∀ i,i<len→∃ t:TT,ttOk t∧∀ j v,(tc t)[j]?=some v→w.cell? (ad.add (i * 3+j))=some v:=by
   intro i hi
   have e:=hel i hi
   rw [List.getElem?_eq_getElem (by omega),Option.bind_eq_some_iff] at e
   obtain ⟨cs,hcs,hy⟩:=e
   obtain ⟨_,hn,hc⟩:=World.cells?_some hcs
   match cs,hn with
   | [c0,c1,c2],_ =>
     obtain ⟨t,ht,rfl,rfl,rfl⟩:=open_tt hy
     refine ⟨t,ht,fun j v hj=>?_⟩
     have hj3:j<3:=(List.getElem?_eq_some_iff.1 hj).1
     have:=hc j hj3
     rw [addr_add] at this
     rw [this]
     exact hj
  have hall:∀ k,k≤len→∃ ts:List TT,ts.length=k∧(∀ t ∈ ts,ttOk t)∧∀ i v,(tcs ts)[i]?=some v→w.cell? (ad.add i)=some v:=by
   intro k
   induction k with
   | zero=>exact fun _=>⟨[],rfl,by simp,by simp [tcs]⟩
   | succ k ih =>
     intro hk
     obtain ⟨ts,h1,h2,h3⟩:=ih (by omega)
     obtain ⟨t,ht,hc⟩:=one k (by omega)
     refine ⟨ts++[t],by simp [h1],?_,?_⟩
     ·intro u hu
      rcases List.mem_append.1 hu with hu | hu
      ·exact h2 u hu
      ·rw [List.mem_singleton] at hu
       rw [hu]
       exact ht
     ·intro i v hi
      rw [tcs_app,tcs_one] at hi
      by_cases hlt:i<(tcs ts).length
      ·rw [List.getElem?_append_left hlt] at hi
       exact h3 i v hi
      ·rw [List.getElem?_append_right (by omega)] at hi
       rw [tcs_len,h1] at hlt hi
       have:=hc (i - k * 3) v hi
       rwa [show k * 3+(i - k * 3)=i by omega] at this
  obtain ⟨ts,h1,h2,h3⟩:=hall len (Nat.le_refl _)
  have hm':cap≤9223372036854775807:=by simp [maxLen] at hm;omega
  exact ⟨ts,(fun h=>nomatch h),hl,hm',⟨by rw [tcs_len,h1],fun _=>⟨ad,rfl,h3⟩⟩,h2⟩
end
def IsLw (w:World) (a:Option Addr) (len cap:Nat) (ts:List LP):Prop :=
 (a=none→len=0∧cap=0)∧len≤cap∧cap≤9223372036854775807∧Rk 2 w a len (lcs ts)∧∀ t ∈ ts,lpOk t
theorem IsLw.len {w:World} {a:Option Addr} {len cap:Nat} {ts:List LP} (h:IsLw w a len cap ts):ts.length=len:=by have:=h.2.2.2.1.len;rw [lcs_len] at this;omega
section
variable {H:Type} {enc:TypeId × Value→H} {w:World} {base:Nat} {held:Bool} {spare:Nat→Bool}
theorem open_lp {fuel:Nat} {c0 c1:Value} {x:DataW H × List MemPlace} (h:DataW.trod enc Tryz.prog w base spare held fuel 113 [c0,c1]=some x):∃ t:LP,lpOk t∧c0=.int .i64 t.1∧c1=.int .i32 t.2:=by
 obtain ⟨xs,n,_,_,_,hl,hx⟩:=DataW.trod_struct Tryz.underlying113 h
 simp at hl
 obtain ⟨y0,e0⟩:∃ y,xs[0]?=some y:=⟨_,List.getElem?_eq_getElem (by omega)⟩
 obtain ⟨y1,e1⟩:∃ y,xs[1]?=some y:=⟨_,List.getElem?_eq_getElem (by omega)⟩
 have g0:DataW.trod enc Tryz.prog w base spare held n 2 [c0]=some y0:=by rw [← e0];exact hx 0 _ rfl
 have g1:DataW.trod enc Tryz.prog w base spare held n 21 [c1]=some y1:=by rw [← e1];exact hx 1 _ rfl
 obtain ⟨a0,q0,_,w0⟩:=DataW.trod_int Tryz.underlying2 g0
 obtain ⟨a1,q1,_,w1⟩:=DataW.trod_int Tryz.underlying21 g1
 simp at q0 q1
 refine ⟨(a0,a1),?_,q0,q1⟩
 simp [Lit.wf,IntKind.min,IntKind.max,IntKind.signed,IntKind.bits] at w0 w1
 unfold lpOk
 dsimp only
 omega
theorem open_lw {fuel:Nat} {a:Option Addr} {len cap:Nat} {x:DataW H × List MemPlace} (h:DataW.trod enc Tryz.prog w base spare held fuel 25 [.slice a len cap]=some x):∃ ts,IsLw w a len cap ts:=by
 rcases DataW.trod_slice Tryz.underlying25 h with ⟨hcs,_⟩ | ⟨ad,l,c,elems,rest,n,_,hcs,_,_,hl,hm,hlen,hel,_,_⟩
 ·simp at hcs
  obtain ⟨rfl,rfl,rfl⟩:=hcs
  exact ⟨[],fun _=>⟨rfl,rfl⟩,Nat.le_refl _,by decide,Rk.none_ 2 w,by simp⟩
 ·simp at hcs
  obtain ⟨rfl,rfl,rfl⟩:=hcs
  have hC:Program.cellsOf Tryz.prog 113=2:=by kernel_rfl
  rw [hC] at hel
  have one:∀ i,i<len→∃ t:LP,lpOk t∧∀ j v,(lc t)[j]?=some v→w.cell? (ad.add (i * 2+j))=some v:=by
   intro i hi
   have e:=hel i hi
   rw [List.getElem?_eq_getElem (by omega),Option.bind_eq_some_iff] at e
   obtain ⟨cs,hcs,hy⟩:=e
   obtain ⟨_,hn,hc⟩:=World.cells?_some hcs
   match cs,hn with
   | [c0,c1],_ =>
     obtain ⟨t,ht,rfl,rfl⟩:=open_lp hy
     refine ⟨t,ht,fun j v hj=>?_⟩
     have hj2:j<2:=(List.getElem?_eq_some_iff.1 hj).1
     have:=hc j hj2
     rw [addr_add] at this
     rw [this]
     exact hj
  have hall:∀ k,k≤len→∃ ts:List LP,ts.length=k∧(∀ t ∈ ts,lpOk t)∧∀ i v,(lcs ts)[i]?=some v→w.cell? (ad.add i)=some v:=by
   intro k
   induction k with
   | zero=>exact fun _=>⟨[],rfl,by simp,by simp [lcs]⟩
   | succ k ih =>
     intro hk
     obtain ⟨ts,h1,h2,h3⟩:=ih (by omega)
     obtain ⟨t,ht,hc⟩:=one k (by omega)
     refine ⟨ts++[t],by simp [h1],?_,?_⟩
     ·intro u hu
      rcases List.mem_append.1 hu with hu | hu
      ·exact h2 u hu
      ·rw [List.mem_singleton] at hu
       rw [hu]
       exact ht
     ·intro i v hi
      rw [lcs_app,lcs_one] at hi
      by_cases hlt:i<(lcs ts).length
      ·rw [List.getElem?_append_left hlt] at hi
       exact h3 i v hi
      ·rw [List.getElem?_append_right (by omega)] at hi
       rw [lcs_len,h1] at hlt hi
       have:=hc (i - k * 2) v hi
       rwa [show k * 2+(i - k * 2)=i by omega] at this
  obtain ⟨ts,h1,h2,h3⟩:=hall len (Nat.le_refl _)
  have hm':cap≤9223372036854775807:=by simp [maxLen] at hm;omega
  exact ⟨ts,(fun h=>nomatch h),hl,hm',⟨by rw [lcs_len,h1],fun _=>⟨ad,rfl,h3⟩⟩,h2⟩
end
open Go.ChangeShapes Go.WideShapes Go.ChangeAt Go.RowKit Go.Deep
section
variable {H:Type} {enc:TypeId × Value→H} {P:Program} {w:World} {base:Nat} {held:Bool}
theorem open_bw {t e:TypeId} {fuel:Nat} {a:Option Addr} {len cap:Nat} {x:DataW H × List MemPlace} (ht:P.underlying t=some (.slice e)) (he:P.underlying e=some .bool) (hC:P.cellsOf e=1)
 (h:DataW.trod enc P w base (fun _=>true) held fuel t [.slice a len cap]=some x):∃ bs,IsBw w a len cap bs:=by
 rcases open_bools ht he hC h with ⟨hcs,_⟩ | ⟨ad,l,c,B,hcs,_,hl,hm,_,hcell⟩
 ·simp at hcs
  obtain ⟨rfl,rfl,rfl⟩:=hcs
  exact ⟨[],fun _=>⟨rfl,rfl⟩,Nat.le_refl _,by decide,Rd.none_ w⟩
 ·simp at hcs
  obtain ⟨rfl,rfl,rfl⟩:=hcs
  have hm':cap≤9223372036854775807:=by simp [maxLen] at hm;omega
  refine ⟨(List.range len).map B,(fun h=>nomatch h),hl,hm',by simp,fun _=>⟨ad,rfl,fun i v hi=>?_⟩⟩
  have hlt:i<len:=by have:=(List.getElem?_eq_some_iff.1 hi).1;simpa using this
  rw [List.getElem?_map,List.getElem?_map,List.getElem?_range hlt] at hi
  simp at hi
  rw [hcell i (by omega),hi]
end
end Go.Proofs.YtpapfpcehlhgeaaGreatDoor
