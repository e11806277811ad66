/-
  Texts of mine in one file: BkO. Their conditions stand in the theorems.
-/
import Derived.Test.YtpapfpcehlhgeaaGreatDoorE01
import Derived.Test.YtpapfpcehlhgeaaGreatDoorE20
import Derived.Test.YtpapfpcehlhgeaaGreatDoorRows
import Derived.ChangeSlices
import Derived.DataReads
namespace Go.Proofs.YtpapfpcehlhgeaaGreatDoor
set_option linter.unusedVariables false
set_option linter.unusedSimpArgs false
set_option maxRecDepth 100000
set_option maxHeartbeats 16000000
open Go.ChangeShapes Go.WideShapes Go.ChangeAt Go.RowKit
section
variable {H:Type} {enc:TypeId × Value→H} {P:Program} {w:World} {base:Nat} {held:Bool}
theorem bk_form {t e:TypeId} {fuel:Nat} {v:Value} {x:DataW H × List MemPlace} (ht:P.underlying t=some (.slice e)) (h:DataW.trod enc P w base (fun _=>true) held fuel t [v]=some x):∃ a len cap,v=.slice a len cap:=by
 rcases DataW.trod_slice ht h with ⟨hcs,_⟩ | ⟨ad,l,c,elems,rest,n,_,hcs,_⟩
 ·simp at hcs
  exact ⟨_,_,_,hcs⟩
 ·simp at hcs
  exact ⟨_,_,_,hcs⟩
theorem bk_rw {t e:TypeId} {k:IntKind} {fuel:Nat} {v:Value} {x:DataW H × List MemPlace} (ht:P.underlying t=some (.slice e)) (he:P.underlying e=some (.int k)) (hC:P.cellsOf e=1)
 (h:DataW.trod enc P w base (fun _=>true) held fuel t [v]=some x):∃ a len cap zs,v=.slice a len cap∧IsRw k w a len cap zs:=by
 rcases open_ints ht he hC h with ⟨hcs,_⟩ | ⟨x,l,c,zs,hcs,_,hl,hm,hz,_,hcell,hwz⟩
 ·simp at hcs
  exact ⟨none,0,0,[],hcs,.inl ⟨rfl,rfl,rfl,rfl⟩⟩
 ·simp at hcs
  exact ⟨_,_,_,zs,hcs,.inr ⟨_,rfl,hl,hm,by simpa using hz,hcell,hwz⟩⟩
theorem open_bk {fuel:Nat} {c0 c1 c2 c3 c4 c5 c6:Value} {x:DataW H × List MemPlace} (h:DataW.trod enc Tryz.prog w base (fun _=>true) held fuel 28 [c0,c1,c2,c3,c4,c5,c6]=some x) :
 ∃ (S:BkS) (b:Bk),c0=.slice S.ti.A S.ti.n S.ti.c∧c1=.slice S.ix.A S.ix.n S.ix.c∧c2=.slice S.ty.A S.ty.n S.ty.c∧c3=.slice S.ch.A S.ch.n S.ch.c∧c4=.slice S.lp.A S.lp.n S.lp.c∧c5=.slice S.sd.A S.sd.n S.sd.c∧c6=.slice S.ut.A S.ut.n S.ut.c∧IsBk w S b:=by
 obtain ⟨xs,n,_,_,_,hl,hx⟩:=DataW.trod_struct Tryz.underlying28 h
 simp at hl
 obtain ⟨y0,e0⟩:∃ y,xs[0]?=some y:=⟨_,List.getElem?_eq_getElem (by omega)⟩
 obtain ⟨y1,e1⟩:∃ y,xs[1]?=some y:=⟨_,List.getElem?_eq_getElem (by omega)⟩
 obtain ⟨y2,e2⟩:∃ y,xs[2]?=some y:=⟨_,List.getElem?_eq_getElem (by omega)⟩
 obtain ⟨y3,e3⟩:∃ y,xs[3]?=some y:=⟨_,List.getElem?_eq_getElem (by omega)⟩
 obtain ⟨y4,e4⟩:∃ y,xs[4]?=some y:=⟨_,List.getElem?_eq_getElem (by omega)⟩
 obtain ⟨y5,e5⟩:∃ y,xs[5]?=some y:=⟨_,List.getElem?_eq_getElem (by omega)⟩
 obtain ⟨y6,e6⟩:∃ y,xs[6]?=some y:=⟨_,List.getElem?_eq_getElem (by omega)⟩
 have g0:DataW.trod enc Tryz.prog w base (fun _=>true) held n 23 [c0]=some y0:=by rw [← e0];exact hx 0 _ rfl
 have g1:DataW.trod enc Tryz.prog w base (fun _=>true) held n 22 [c1]=some y1:=by rw [← e1];exact hx 1 _ rfl
 have g2:DataW.trod enc Tryz.prog w base (fun _=>true) held n 24 [c2]=some y2:=by rw [← e2];exact hx 2 _ rfl
 have g3:DataW.trod enc Tryz.prog w base (fun _=>true) held n 22 [c3]=some y3:=by rw [← e3];exact hx 3 _ rfl
 have g4:DataW.trod enc Tryz.prog w base (fun _=>true) held n 25 [c4]=some y4:=by rw [← e4];exact hx 4 _ rfl
 have g5:DataW.trod enc Tryz.prog w base (fun _=>true) held n 26 [c5]=some y5:=by rw [← e5];exact hx 5 _ rfl
 have g6:DataW.trod enc Tryz.prog w base (fun _=>true) held n 26 [c6]=some y6:=by rw [← e6];exact hx 6 _ rfl
 obtain ⟨a0,l0,k0,z0,rfl,w0⟩:=bk_rw Tryz.underlying23 Tryz.underlying2 (by kernel_rfl) g0
 obtain ⟨a1,l1,k1,z1,rfl,w1⟩:=bk_rw Tryz.underlying22 Tryz.underlying5 (by kernel_rfl) g1
 obtain ⟨a2,l2,k2,rfl⟩:=bk_form Tryz.underlying24 g2
 obtain ⟨z2,w2⟩:=open_tw g2
 obtain ⟨a3,l3,k3,z3,rfl,w3⟩:=bk_rw Tryz.underlying22 Tryz.underlying5 (by kernel_rfl) g3
 obtain ⟨a4,l4,k4,rfl⟩:=bk_form Tryz.underlying25 g4
 obtain ⟨z4,w4⟩:=open_lw g4
 obtain ⟨a5,l5,k5,rfl⟩:=bk_form Tryz.underlying26 g5
 obtain ⟨z5,w5⟩:=open_bw Tryz.underlying26 Tryz.underlying4 (by kernel_rfl) g5
 obtain ⟨a6,l6,k6,rfl⟩:=bk_form Tryz.underlying26 g6
 obtain ⟨z6,w6⟩:=open_bw Tryz.underlying26 Tryz.underlying4 (by kernel_rfl) g6
 have hi:∀ v ∈ z0.take l0,-9223372036854775808≤v∧v<9223372036854775808:=fun v hv=>wf_i64 (w0.wf v hv)
 refine ⟨⟨⟨a0,l0,k0⟩,⟨a1,l1,k1⟩,⟨a2,l2,k2⟩,⟨a3,l3,k3⟩,⟨a4,l4,k4⟩,⟨a5,l5,k5⟩,⟨a6,l6,k6⟩⟩,⟨z0.take l0,z1.take l1,z2,z3.take l3,z4,z5,z6⟩,rfl,rfl,rfl,rfl,rfl,rfl,rfl,?_⟩
 exact ⟨⟨w0.nil,w0.cap.1,w0.cap.2⟩,⟨w1.nil,w1.cap.1,w1.cap.2⟩,⟨w2.1,w2.2.1,w2.2.2.1⟩,⟨w3.nil,w3.cap.1,w3.cap.2⟩,⟨w4.1,w4.2.1,w4.2.2.1⟩,⟨w5.1,w5.2.1,w5.2.2.1⟩,⟨w6.1,w6.2.1,w6.2.2.1⟩,
  w0.rd,w1.rd,w2.2.2.2.1,w3.rd,w4.2.2.2.1,w5.2.2.2,w6.2.2.2,⟨hi,bytes_of_mem fun q hq=>wf_u8 (w1.wf q hq),w2.2.2.2.2,bytes_of_mem fun q hq=>wf_u8 (w3.wf q hq),w4.2.2.2.2⟩⟩
end
end Go.Proofs.YtpapfpcehlhgeaaGreatDoor
