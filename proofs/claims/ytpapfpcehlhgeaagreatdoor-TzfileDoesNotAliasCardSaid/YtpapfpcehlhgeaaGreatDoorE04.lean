/-
  Texts of mine in one file: Exp, Apz, HdA, HdB, HdC, HdE, HdG, Hd, Fl, Ref15, Ref17, Ref18, Ref20. Their conditions stand in the theorems.
-/
import Derived.Test.YtpapfpcehlhgeaaGreatDoorE03
import Derived.Test.YtpapfpcehlhgeaaGreatDoorE01
import Derived.Lib.AppendStr
import Derived.Lib.AppendZerosOnto
import Derived.Test.YtpapfpcehlhgeaaGreatDoorE02
import Derived.Test.YtpapfpcehlhgeaaGreatDoorRows
import Derived.Lib.LaidTab
import Derived.MakeChecks
import Derived.LaidHandle
import Derived.BigRegion
import Derived.Lib.SlBytesConst
import Derived.Deep.RegionHeld3
import Derived.Deep.DeepCutAuto
import Derived.Deep.RegionLaw
namespace Go.Proofs.YtpapfpcehlhgeaaGreatDoor
set_option linter.unusedVariables false
set_option linter.unusedSimpArgs false
set_option maxRecDepth 100000
set_option maxHeartbeats 16000000
open Go.ChangeShapes Go.WideShapes Go.ChangeAt Go.RowKit
namespace cu_
theorem Expect_nil (A:Option Addr) (n c:Nat) (p x a y:Int) (B:Option Addr) (m d:Nat) (p' x' a':Int) (w:World)
 (N:∀ w,Calls Tryz.prog 127 #[cu A n c p x a,.int .i64 m] w fun e w'=>e=.returned (.tuple #[.slice none 0 0,cu A n c p' x' a'])∧Below w.heap.size w w') :
 Calls Tryz.prog 78 #[cu A n c p x a,.slice B m d,.int .i64 y] w fun e w'=>e=.returned (cu A n c p' x' a')∧Below w.heap.size w w':=by
 have HN:=hide N
 clear N
 go_enter Tryz.func78,Tryz.ntmps78
 go_wp2_with fail
 refine (HN.out _).mono ?_
 rintro e w1 ⟨rfl,hb⟩
 have hz:w.heap.size+1<w1.heap.size:=by have:=hb.size;simp at this;omega
 obtain ⟨x0,x1,x2,x3⟩:=((Bx.snd4 w (.cells #[.slice A n c,.int .i64 p,.int .i64 x,.int .i64 a] 51) (.slice none 0 0) (.int .i64 0) (.int .i64 0) (.int .i64 0) 51).below hb).cells4
 have y:=((Bx.snd4 w (.cells #[.slice A n c,.int .i64 p,.int .i64 x,.int .i64 a] 51) (.slice none 0 0) (.int .i64 0) (.int .i64 0) (.int .i64 0) 51).below hb).fr
 have hb:=hide (bel_next (bl_alloc (bl_new _ _) _) hb)
 go_wp2
 go_loop [20] (fun i=>i=.int .i64 0) (fun _=>0)
 case atStart=>rfl
 case round =>
  subst hrel
  go_wp2
  refine bodyPost_ret (v:=cu A n c p' x' a') (by simp [results,Tryz.results78,go_sem,x0,x1,x2,x3,hz]) rfl ⟨rfl,?_⟩
  repeat (first | exact hb.out | refine bl_set ?_ (by omega) _ | refine bl_drew ?_ | refine bl_alloc ?_ _)
theorem Expect_eq (A:Option Addr) (n c:Nat) (p x a y:Int) (B:Option Addr) (m d:Nat) (A1:Option Addr) (c1:Nat) (l:List Int) (p' x' a':Int) (w:World)
 (N:∀ w,Calls Tryz.prog 127 #[cu A n c p x a,.int .i64 m] w fun e w'=>e=.returned (.tuple #[.slice A1 m c1,cu A n c p' x' a'])∧Below w.heap.size w w')
 (hm:m≤9223372036854775807) (hr:Rd w A1 m (l.map (Value.int .u8))) (hr':Rd w B m (l.map (Value.int .u8))) :
 Calls Tryz.prog 78 #[cu A n c p x a,.slice B m d,.int .i64 y] w fun e w'=>e=.returned (cu A n c p' x' a')∧Below w.heap.size w w':=by
 have HN:=hide N
 clear N
 go_enter Tryz.func78,Tryz.ntmps78
 go_wp2_with fail
 refine (HN.out _).mono ?_
 rintro e w1 ⟨rfl,hb⟩
 have hz:w.heap.size+1<w1.heap.size:=by have:=hb.size;simp at this;omega
 obtain ⟨x0,x1,x2,x3⟩:=((Bx.snd4 w (.cells #[.slice A n c,.int .i64 p,.int .i64 x,.int .i64 a] 51) (.slice none 0 0) (.int .i64 0) (.int .i64 0) (.int .i64 0) 51).below hb).cells4
 have yf:=((Bx.snd4 w (.cells #[.slice A n c,.int .i64 p,.int .i64 x,.int .i64 a] 51) (.slice none 0 0) (.int .i64 0) (.int .i64 0) (.int .i64 0) 51).below hb).fr
 have hb:=hide (bel_next (bl_alloc (bl_new _ _) _) hb)
 have hr:=(hr.below hb.out).alloc (.cells #[.slice A n c,.int .i64 p',.int .i64 x',.int .i64 a'] 51)
 have hr':=(hr'.below hb.out).alloc (.cells #[.slice A n c,.int .i64 p',.int .i64 x',.int .i64 a'] 51)
 go_wp2
 go_loop [20] (fun i=>∃ k:Nat,k≤m∧i=.int .i64 (k:Nat)) (fun i=>m - (intOf i).toNat)
 case atStart=>exact ⟨0,by omega,rfl⟩
 case round =>
  obtain ⟨k,hk,rfl⟩:=hrel
  by_cases hlt:k<m
  ·obtain ⟨ad,rfl,hc⟩:=hr.int hlt
   obtain ⟨ad',rfl,hc'⟩:=hr'.int hlt
   go_wp2
   go_round
   case rel=>exact ⟨k+1,by omega,by go_num⟩
   case measure=>simp [intOf];omega
  ·go_wp2
   refine bodyPost_ret (v:=cu A n c p' x' a') (by simp [results,Tryz.results78,go_sem,x0,x1,x2,x3,hz]) rfl ⟨rfl,?_⟩
   repeat (first | exact hb.out | refine bl_set ?_ (by omega) _ | refine bl_drew ?_ | refine bl_alloc ?_ _)
theorem Expect_ne (A:Option Addr) (n c:Nat) (p a y:Int) (B:Option Addr) (m d:Nat) (A1:Option Addr) (c1:Nat) (l l':List Int) (p' x' a':Int) (i:Nat) (w:World)
 (N:∀ w,Calls Tryz.prog 127 #[cu A n c p 0 a,.int .i64 m] w fun e w'=>e=.returned (.tuple #[.slice A1 m c1,cu A n c p' x' a'])∧Below w.heap.size w w')
 (hm:m≤9223372036854775807) (hr:Rd w A1 m (l.map (Value.int .u8))) (hr':Rd w B m (l'.map (Value.int .u8))) (hi:i<m) (hy:y≠0) (hp0:0≤p) (hp:p+i<9223372036854775807)
 (he:∀ j,j<i→l[j]?.getD 0=l'[j]?.getD 0) (hn:l[i]?.getD 0≠l'[i]?.getD 0) :
 Calls Tryz.prog 78 #[cu A n c p 0 a,.slice B m d,.int .i64 y] w fun e w'=>e=.returned (cu A n c p y (p+i))∧Below w.heap.size w w':=by
 have HN:=hide N
 have He:=hide he
 have Hn:=hide hn
 clear N he hn
 go_enter Tryz.func78,Tryz.ntmps78
 go_wp2_with fail
 refine (HN.out _).mono ?_
 rintro e w1 ⟨rfl,hb⟩
 have hz:w.heap.size+1<w1.heap.size:=by have:=hb.size;simp at this;omega
 have hz0:w.heap.size<w1.heap.size:=by omega
 have b0:=((Bx.new4 w (.slice A n c) (.int .i64 p) (.int .i64 0) (.int .i64 a) 51).alloc (.cells #[.slice none 0 0,.int .i64 0,.int .i64 0,.int .i64 0] 51)).below hb
 have b1:=(Bx.snd4 w (.cells #[.slice A n c,.int .i64 p,.int .i64 0,.int .i64 a] 51) (.slice none 0 0) (.int .i64 0) (.int .i64 0) (.int .i64 0) 51).below hb
 obtain ⟨x0,x1,x2,x3⟩:=b0.cells4
 have b1:=hide (b1.alloc (.cells #[.slice A n c,.int .i64 p',.int .i64 x',.int .i64 a'] 51))
 have hb:=hide (bel_next (bl_alloc (bl_new _ _) _) hb)
 have hr:=(hr.below hb.out).alloc (.cells #[.slice A n c,.int .i64 p',.int .i64 x',.int .i64 a'] 51)
 have hr':=(hr'.below hb.out).alloc (.cells #[.slice A n c,.int .i64 p',.int .i64 x',.int .i64 a'] 51)
 have b0:=hide b0
 go_wp2
 go_loop [20] (fun i'=>∃ k:Nat,k≤i∧i'=.int .i64 (k:Nat)) (fun i'=>m - (intOf i').toNat)
 case atStart=>exact ⟨0,by omega,rfl⟩
 case round =>
  obtain ⟨k,hk,rfl⟩:=hrel
  have hlt:k<m:=by omega
  obtain ⟨ad,rfl,hc⟩:=hr.int hlt
  obtain ⟨ad',rfl,hc'⟩:=hr'.int hlt
  by_cases hki:k<i
  ·have hxy:=He.out k hki
   generalize l[k]?.getD 0=u at *
   generalize l'[k]?.getD 0=v at *
   subst hxy
   go_wp2
   go_round
   case rel=>exact ⟨k+1,by omega,by go_num⟩
   case measure=>simp [intOf];omega
  ·obtain rfl:k=i:=by omega
   have hxy:=Hn.out
   generalize l[k]?.getD 0=u at *
   generalize l'[k]?.getD 0=v at *
   go_wp2_with fail
   refine (Fail_ok _ _ _ _ _ _ _ _ hy).mono ?_
   rintro e w2 ⟨rfl,hb2⟩
   have b1':=b1.out.below hb2
   obtain ⟨y0,y1,y2,y3⟩:=b1'.cells4
   have yf:=b1'.fr
   have hb2:=hide (bel_next (bl_alloc hb.out _) hb2)
   go_wp2
   refine bodyPost_ret (v:=cu A n c p y (p+k)) (by simp [results,Tryz.results78,go_sem,y0,y1,y2,y3]) rfl ⟨rfl,?_⟩
   repeat (first | exact hb2.out | refine bl_set ?_ (by omega) _ | refine bl_drew ?_ | refine bl_alloc ?_ _)
theorem Expect_err (A:Option Addr) (n c:Nat) (p x a y:Int) (B:Option Addr) (m d:Nat) (w:World) (hx:x≠0) :
 Calls Tryz.prog 78 #[cu A n c p x a,.slice B m d,.int .i64 y] w fun e w'=>e=.returned (cu A n c p x a)∧Below w.heap.size w w' :=
 Expect_nil A n c p x a y B m d _ _ _ w (fun w=>next_err A n c p x a m w hx)
theorem Expect_no (A:Option Addr) (n c:Nat) (p a y:Int) (B:Option Addr) (m d:Nat) (w:World) (hn:n≤9223372036854775807) (h0:0≤p) (h1:p≤n) (hk:n - p<(m:Int)) :
 Calls Tryz.prog 78 #[cu A n c p 0 a,.slice B m d,.int .i64 y] w fun e w'=>e=.returned (cu A n c p 1 n)∧Below w.heap.size w w' :=
 Expect_nil A n c p 0 a y B m d _ _ _ w (fun w=>next_no A n c p a m w hn h0 h1 (.inr hk))
theorem cut_rd {A:Option Addr} {n c:Nat} {xs:List Int} {p k:Nat} {w:World} (hr:Rd w A n (xs.map (Value.int .u8))) (hn:n≤c) (h1:p+k≤n):Rd w (if c=p then A else A.map (·.add p)) k ((fld xs p k).map (Value.int .u8)):=by
 have:=(hr.cut (k:=p) (cap:=c) (by omega) hn).take (k:=k) (by omega)
 unfold fld
 rwa [List.map_take,List.map_drop]
theorem Expect_yes (A:Option Addr) (n c:Nat) (xs:List Int) (p:Nat) (y:Int) (B:Option Addr) (m d:Nat) (w:World) (hn:n≤c) (hc:c≤9223372036854775807) (h1:p+m≤n)
 (hr:Rd w A n (xs.map (Value.int .u8))) (hr':Rd w B m ((fld xs p m).map (Value.int .u8))) :
 Calls Tryz.prog 78 #[cu A n c p 0 0,.slice B m d,.int .i64 y] w fun e w'=>e=.returned (cu A n c ((p+m:Nat):Int) 0 0)∧Below w.heap.size w w' :=
 Expect_eq A n c p 0 0 y B m d _ _ (fld xs p m) _ _ _ w (fun w=>next_yes A n c p m w hn hc h1) (by omega) (cut_rd hr hn h1) hr'
theorem Expect_differ (A:Option Addr) (n c:Nat) (xs:List Int) (p:Nat) (y:Int) (B:Option Addr) (m d:Nat) (ys:List Int) (i:Nat) (w:World) (hn:n≤c) (hc:c≤9223372036854775807) (h1:p+m≤n)
 (hr:Rd w A n (xs.map (Value.int .u8))) (hr':Rd w B m (ys.map (Value.int .u8))) (hi:i<m) (hy:y≠0)
 (he:∀ j,j<i→(fld xs p m)[j]?.getD 0=ys[j]?.getD 0) (hne:(fld xs p m)[i]?.getD 0≠ys[i]?.getD 0) :
 Calls Tryz.prog 78 #[cu A n c p 0 0,.slice B m d,.int .i64 y] w fun e w'=>e=.returned (cu A n c p y (p+i))∧Below w.heap.size w w' :=
 Expect_ne A n c p 0 y B m d _ _ (fld xs p m) ys _ _ _ i w (fun w=>next_yes A n c p m w hn hc h1) (by omega) (cut_rd hr hn h1) hr' hi hy (by omega) (by omega) he hne
end cu_
theorem zeroCells_one (z:Value) (k:Nat):Builtin.zeroCells #[z] k=(List.replicate k z).toArray:=by
 apply Array.ext'
 apply List.ext_getElem
 ·simp [Builtin.zeroCells]
 ·intro i h1 h2
  simp [Builtin.zeroCells,Nat.mod_one]
section
variable {P:Program} (w:World)
theorem run_append_room_zeros (t tn ty e:TypeId) (i:TypeInfo) (z:Value) (kn kq:IntKind) (ht:P.underlying t=some (.slice e)) (htn:P.underlying tn=some (.int kn)) (hi:P.info? e=some i) (hz:i.zero=some z) (hzc:z.cells=#[z]) (h1:z.oneCell'=true) (hs1:i.size=1)
 (g sLen sCap:Nat) (cur:Array Value) (hg:w.heap[g]?=some (.cells cur e (0,0))) (k:Nat) (h0:0<k) (h63:(k:Int)≤9223372036854775807) (h48:k * i.bytes≤281474976710656)
 (hroom:sLen+k≤sCap) (hfit:sLen+k≤cur.size) :
 (Builtin.append_ #[t,tn] ty #[.slice (some ⟨g,0,none⟩) sLen sCap,.int kq k]).run P w =
   .ok (.slice (some ⟨g,0,none⟩) (sLen+k) sCap) (w.setRow g (cur.toList.take sLen++List.replicate k z++cur.toList.drop (sLen+k)).toArray):=by
 have hst:=run_storeCells_at P g sLen e (List.replicate k z) 0 cur w hg (by simpa using hfit) (by intro u hu;rw [List.eq_of_mem_replicate hu];exact h1)
 simp only [Nat.add_zero,List.length_replicate] at hst
 have hk:k≠0:=by omega
 have hw:IntKind.i64.wrap (k:Int)=k:=by rw [IntKind.wrap_i64];omega
 have h48i:¬ (281474976710656<(k:Int) * (i.bytes:Int)):=by
  rw [← Int.natCast_mul]
  omega
 have hneg:¬ ((k:Int)<0):=by omega
 have hzl:(Builtin.zeroCells #[z] k).toList=List.replicate k z:=by rw [zeroCells_one]
 simp [Builtin.append_,run_underlying ht,run_underlying htn,sizeOf,typeInfo,zeroValue,hi,hz,hzc,hs1,asInt,asIntOf,hw,hk,hneg,h48i,hroom,hzl,Addr.add_lit,hst]
theorem run_append_own_zeros (base:Nat) (t tn ty e:TypeId) (i:TypeInfo) (z:Value) (kn kq:IntKind) (ht:P.underlying t=some (.slice e)) (htn:P.underlying tn=some (.int kn)) (hi:P.info? e=some i) (hz:i.zero=some z) (hzc:z.cells=#[z]) (h1:z.oneCell'=true)
 (hsize:i.size=1) (v:Value) (n:Nat) (xs:List Value) (hown:w.ownsRow base e 1 v n xs) (k:Nat) (h0:0<k)
 (h63:n+k≤maxLen) (hbytes:(n+k) * i.bytes≤140737488355328) (hbase:base≤w.heap.size) :
 ∃ v' w',(Builtin.append_ #[t,tn] ty #[v,.int kq k]).run P w=.ok v' w'∧w'.ownsRow base e 1 v' (n+k) (xs++List.replicate k z)∧w.grownBy w' v.ownBlock:=by
 have hsmall:n+k≤9223372036854775807:=by simp only [maxLen] at h63;omega
 have hxl:xs.length=n:=by simpa using hown.1
 have hlen:(xs++List.replicate k z).length=(n+k) * 1:=by rw [List.length_append,hxl,List.length_replicate,Nat.mul_one]
 have h48:k * i.bytes≤281474976710656:=Nat.le_trans (Nat.mul_le_mul_right _ (by omega:k≤n+k)) (by omega)
 have grown:∀ (old:Nat),old<n+k→∀ (row:Option Nat),
  (w.drew.alloc (.cells (xs.toArray++Builtin.zeroCells z.cells k++Builtin.zeroCells z.cells (grownCap w (n+k) old e - (n+k))) e)).ownsRow base e 1
    (.slice (some ⟨w.heap.size,0,none⟩) (n+k) (grownCap w (n+k) old e)) (n+k) (xs++List.replicate k z) ∧
  w.grownBy (w.drew.alloc (.cells (xs.toArray++Builtin.zeroCells z.cells k++Builtin.zeroCells z.cells (grownCap w (n+k) old e - (n+k))) e)) row:=by
  intro old ho row
  have hge:=grownCap_ge w (n+k) old e
  have hcm:grownCap w (n+k) old e≤maxLen:=grownCap_le_maxLen w (n+k) old e h63
  rw [hzc,zeroCells_one,zeroCells_one]
  refine ⟨⟨hlen,.inr ⟨w.heap.size,_,_,rfl,hbase,heap_alloc_new w.drew _,hge,hcm,?_,?_⟩⟩,⟨rfl,rfl,rfl,by simp,fun q hq _=>heap_alloc_old w.drew _ hq⟩⟩
  ·simp only [Array.size_append,List.size_toArray,List.length_replicate,hxl]
   omega
  ·simp only [Array.toList_append,List.append_assoc]
   rw [← List.append_assoc,← hlen]
   exact List.take_left
 rcases hown.2 with ⟨rfl,rfl⟩ | ⟨g,cap,cur,rfl,hbg,hg,hnc,hcm,hcs,htake⟩
 ·have hx:xs=[]:=List.eq_nil_of_length_eq_zero hxl
  subst hx
  have hr:=Lib.run_append_nil_zeros (P:=P) w t tn ty e i z kq kn ht htn hi hz k h0 (by omega) (by omega) h48
  have hgr:=grown 0 (by omega) (Value.ownBlock (.slice none 0 0))
  simp only [Nat.zero_add,List.nil_append,Array.empty_append] at hgr ⊢
  exact ⟨_,_,hr,hgr.1,hgr.2⟩
 ·by_cases hroom:n+k≤cap
  ·have hcs':cur.size=cap:=by simpa using hcs
   have hr:=run_append_room_zeros (P:=P) w t tn ty e i z kn kq ht htn hi hz hzc h1 hsize g n cap cur hg k h0 (by omega) h48 hroom (by omega)
   refine ⟨_,_,hr,⟨hlen,.inr ⟨g,cap,_,rfl,hbg,setRow_heap w g cur _ e _ hg,hroom,hcm,?_,?_⟩⟩,⟨rfl,rfl,rfl,by simp,fun k _ hk=>setRow_other w g k _ (fun e=>hk (by simp [Value.ownBlock,e]))⟩⟩
   ·simp only [List.size_toArray,List.length_append,List.length_take,List.length_drop,Array.length_toList,List.length_replicate]
    omega
   ·have ht':cur.toList.take n=xs:=by simpa using htake
    rw [ht',← hlen]
    exact List.take_left
  ·have holds:∀ j u,xs[j]?=some u→w.cell? ((⟨g,0,none⟩:Addr).add j)=some u:=hown.cells (g:=g) rfl
   have hr:=Lib.run_append_grow_zeros (P:=P) w t tn ty e i z kq kn ht htn hi hz (some ⟨g,0,none⟩) n cap xs (run_firstCells_some (P:=P) w.drew i.size n ⟨g,0,none⟩ n cap xs (by rw [hsize];simpa using hxl) (by simpa using holds)) k h0 (by omega) (by omega) (by omega) h48 (growslice_fits (by omega) hbytes)
   have hgr:=grown cap (by omega) (Value.ownBlock (.slice (some ⟨g,0,none⟩) n cap))
   exact ⟨_,_,hr,hgr.1,hgr.2⟩
end
theorem apZ {P:Program} {t u e:TypeId} {z:Value} {by_:Nat} {ops:Array Oper} {rest:List Oper} {o:Oper} {a:Act} {Q:Exit→Act→World→Prop} (E:ElT P t e z by_) {kn:IntKind} (hu:P.underlying u=some (.int kn)) (h1:z.oneCell'=true) {W w0:World} {b B:Nat} {A:Option Addr} {n c:Nat} {xs:List Value} (hown:Ow W b e A n c xs) (hB:Below B w0 W) (hBb:B≤b)
 (s x:Operand) (kq:IntKind) (k:Nat) (hgd:o.guard=none) (ho:o.op=.call { callee:=.builtin .append,args:=#[s,x],argTypes:=#[t,u] })
 (hs:a.eval s=.slice A n c) (hx:a.eval x=.int kq k) (h0:0<k) (hm:n+k≤maxLen) (hby:(n+k) * by_≤140737488355328)
 (h:∀ A' c' w',Ow w' b e A' (n+k) c' (xs++List.replicate k z)→Below B w0 w'→W.grownBy w' (oB A)→wpList P ops Q rest (a.put o.dst (.slice A' (n+k) c')) w') :
 wpList P ops Q (o :: rest) a W:=by
 obtain ⟨i,hi,hz,hsz,hbb⟩:=info_parts E.2.1
 refine wpList_plain hgd fun K hK=>?_
 obtain ⟨v',w',hr,hown',hg⟩:=run_append_own_zeros (P:=P) W b t u o.type e i z kn kq E.1 hu hi hz E.2.2 h1 hsz (.slice A n c) n xs hown.2 k h0 hm (by rw [hbb];exact hby) hown.1
 unfold Oper.wp execOp
 simp only [ho,resolve,invoke,builtin,Sem.run_bind,Sem.run_pure,Result.andThen_ok,List.map_toArray,List.map_cons,List.map_nil,hs,hx,hr]
 rw [oB_own] at hg
 have hB':Below B w0 w':=hB.grown hg (by have:=hown.1;omega) (fun k hk=>by have:=(hown.blk hk).1;omega)
 have hb':b≤w'.heap.size:=Nat.le_trans hown.1 hg.size
 rcases hown'.2 with ⟨rfl,h0'⟩ | ⟨g,cap,cur,rfl,_⟩
 ·omega
 ·exact hK _ _ (h _ _ _ ⟨hb',hown'⟩ hB' hg)
theorem apStr {P:Program} {t u e:TypeId} {ops:Array Oper} {rest:List Oper} {o:Oper} {a:Act} {Q:Exit→Act→World→Prop} (E:ElT P t e (.int .u8 0) 1) (hu:P.underlying u=some .string) {W w0:World} {b B:Nat} {A:Option Addr} {n c:Nat} {xs:List Value} (hown:Ow W b e A n c xs) (hB:Below B w0 W) (hBb:B≤b)
 (s x:Operand) (str:ByteArray) (hgd:o.guard=none) (ho:o.op=.call { callee:=.builtin .append,args:=#[s,x],argTypes:=#[t,u] })
 (hs:a.eval s=.slice A n c) (hx:a.eval x=.string str) (hm:n+str.size≤1000000000)
 (h:∀ A' c' w',Ow w' b e A' (n+str.size) c' (xs++Lib.strCells str)→Below B w0 w'→W.grownBy w' (oB A)→wpList P ops Q rest (a.put o.dst (.slice A' (n+str.size) c')) w') :
 wpList P ops Q (o :: rest) a W:=by
 obtain ⟨i,hi,hz,hsz,hbb⟩:=info_parts E.2.1
 refine Lib.wpList_append_own_string (w:=W) hgd s x t u ho b e i E.1 hu hi hz hsz hbb (.slice A n c) n xs hs hown.2 str hx (by unfold maxLen;omega) (by omega) hown.1 ?_
 intro v' w' hown' hg hnil
 rw [oB_own] at hg
 have hB':Below B w0 w':=hB.grown hg (by have:=hown.1;omega) (fun k hk=>by have:=(hown.blk hk).1;omega)
 have hb':b≤w'.heap.size:=Nat.le_trans hown.1 hg.size
 rcases hown'.2 with ⟨rfl,h0⟩ | ⟨g,cap,cur,rfl,_⟩
 ·have:=h none 0 w' ⟨hb',by rw [h0] at hown' ⊢;exact hown'⟩ hB' hg
  rw [h0] at this
  exact this
 ·exact h _ _ _ ⟨hb',hown'⟩ hB' hg
def Th (w:World):Prop:=0<w.heap.size∧∀ (i:Nat) (v:Int),([0,50,51,52]:List Int)[i]?=some v→w.cell? ⟨0,i,none⟩=some (.int .u8 v)
theorem Th.below {w w':World} (h:Th w) (hb:Below w.heap.size w w'):Th w':=⟨Nat.lt_of_lt_of_le h.1 hb.size,fun i v hi=>cellE hb (h.2 i v hi)⟩
theorem Th.cells {w:World} (h:Th w):w.cell? ⟨0,0,none⟩=some (.int .u8 0)∧w.cell? ⟨0,1,none⟩=some (.int .u8 50)∧w.cell? ⟨0,2,none⟩=some (.int .u8 51)∧w.cell? ⟨0,3,none⟩=some (.int .u8 52) :=
 ⟨h.2 0 0 rfl,h.2 1 50 rfl,h.2 2 51 rfl,h.2 3 52 rfl⟩
theorem elU8h:ElT Tryz.prog 22 5 (.int .u8 0) 1:=⟨Tryz.underlying22,by kernel_rfl,rfl⟩
namespace hd_
def ptrs (g:Nat):Value:=.agg #[.pointer (some ⟨g,1,none⟩),.pointer (some ⟨g,2,none⟩),.pointer (some ⟨g,3,none⟩),.pointer (some ⟨g,4,none⟩),.pointer (some ⟨g,5,none⟩),.pointer (some ⟨g,6,none⟩)]
theorem counts (g:Nat) (w:World):Calls Tryz.prog 110 #[.pointer (some ⟨g,0,none⟩)] w fun e w'=>e=.returned (ptrs g)∧Below w.heap.size w w':=by
 go_enter Tryz.func110,Tryz.ntmps110
 go_wp2
 go_region
 all_goals go_wp2
 all_goals exact bodyPost_ret (v:=ptrs g) (by simp [results,Tryz.results110,go_sem,ptrs]) rfl ⟨rfl,by repeat (first | exact bl_refl _ | refine bl_set ?_ (by omega) _ | refine bl_drew ?_ | refine bl_alloc ?_ _)⟩
theorem Consistent (h:Hd) (w:World) (hT:Th w):Calls Tryz.prog 120 #[h.val] w fun e w'=>e=.returned (.bool h.con)∧Below w.heap.size w w':=by
 obtain ⟨v,a,b,c,d,x,y⟩:=h
 have hb:=bl_new w (.cells #[.int .i64 v,.int .u32 a,.int .u32 b,.int .u32 c,.int .u32 d,.int .u32 x,.int .u32 y] 55)
 obtain ⟨r,hr⟩:∃ r,r=(Hd.con ⟨v,a,b,c,d,x,y⟩):=⟨_,rfl⟩
 rw [← hr]
 unfold Hd.con at hr
 simp only at hr
 have hb:=hide hb
 clear hT
 by_cases h1:x=0
 ·have h2:r=false:=by rw [hr];simp [h1]
  subst h1 h2
  clear hr
  go_enter Tryz.func120,Tryz.ntmps120
  go_wp2
  go_ret
  exact ⟨rfl,hb.out⟩
 have e1:(x != 0)=true:=by simpa using h1
 by_cases h2:y=0
 ·have h3:r=false:=by rw [hr];simp [h2]
  subst h2 h3
  clear hr
  go_enter Tryz.func120,Tryz.ntmps120
  go_wp2
  go_ret
  exact ⟨rfl,hb.out⟩
 have e2:(y != 0)=true:=by simpa using h2
 have hr:r=((a == 0 || a == x) && (b == 0 || b == x)):=by
  rw [hr,Bool.eq_iff_iff]
  simp [h1,h2]
 have hr:=hide hr
 rcases h3:(a == 0)
 all_goals rcases h4:(a == x)
 all_goals rcases h5:(b == 0)
 all_goals
  go_enter Tryz.func120,Tryz.ntmps120
  go_wp2
  go_ret
  exact ⟨retb (by rw [hr.out];simp [h3,h4,h5]),hb.out⟩
end hd_
namespace hd_
def vtab:List Int:=[0,50,51,52]
theorem vix0 (w:World):(Instr.index 162 (.agg #[.int .u8 0,.int .u8 50,.int .u8 51,.int .u8 52]) (.int .i64 0)).run Tryz.prog w=.ok (.int .u8 0) w:=rfl
theorem vix1 (w:World):(Instr.index 162 (.agg #[.int .u8 0,.int .u8 50,.int .u8 51,.int .u8 52]) (.int .i64 1)).run Tryz.prog w=.ok (.int .u8 50) w:=rfl
theorem vix2 (w:World):(Instr.index 162 (.agg #[.int .u8 0,.int .u8 50,.int .u8 51,.int .u8 52]) (.int .i64 2)).run Tryz.prog w=.ok (.int .u8 51) w:=rfl
theorem vix3 (w:World):(Instr.index 162 (.agg #[.int .u8 0,.int .u8 50,.int .u8 51,.int .u8 52]) (.int .i64 3)).run Tryz.prog w=.ok (.int .u8 52) w:=rfl
theorem ver_yes (A:Option Addr) (n c:Nat) (p x a v p' x' a':Int) (m:Nat) (w:World) (hT:Th w)
 (N:∀ w1,Below w.heap.size w w1→Calls Tryz.prog 158 #[cu A n c p x a,.int .i64 1] w1 fun e w'=>e=.returned (.tuple #[.int .u64 v,cu A n c p' x' a'])∧Below w1.heap.size w1 w')
 (hm:m<4) (hv:vtab[m]?=some v) :
 Calls Tryz.prog 118 #[cu A n c p x a] w fun e w'=>e=.returned (.tuple #[.int .i64 (m+1),cu A n c p' x' a'])∧Below w.heap.size w w':=by
 have HN:=hide N
 have HT:=hide hT
 clear N hT
 have hb:=hide (bl_alloc (bl_new w (.cells #[.slice A n c,.int .i64 p,.int .i64 x,.int .i64 a] 51)) (.cells #[.slice none 0 0,.int .i64 0,.int .i64 0,.int .i64 0] 51))
 go_enter Tryz.func118,Tryz.ntmps118
 go_wp2_with fail
 refine (HN.out _ hb.out).mono ?_
 rintro e w1 ⟨rfl,h1⟩
 have hz:w.heap.size+1<w1.heap.size:=by have:=h1.size;simp at this;omega
 have B1:=hide ((Bx.snd4 w (.cells #[.slice A n c,.int .i64 p,.int .i64 x,.int .i64 a] 51) (.slice none 0 0) (.int .i64 0) (.int .i64 0) (.int .i64 0) 51).below h1)
 replace hb:=hide (bel_next hb.out h1)
 replace HT:=hide (HT.out.below hb.out)
 clear h1
 replace HT:=hide (HT.out.below (bl_new w1 (.cells #[.slice A n c,.int .i64 p',.int .i64 x',.int .i64 a'] 51)))
 obtain ⟨t0,t1,t2,t3⟩:=HT.out.cells
 have i0:=vix0
 have i1:=vix1
 have i2:=vix2
 have i3:=vix3
 go_wp2
 go_loop [14] (fun i=>∃ k:Nat,k≤m∧i=.int .i64 (k:Nat)) (fun i=>m - (intOf i).toNat)
 case atStart=>exact ⟨0,by omega,rfl⟩
 case round =>
  obtain ⟨k,hk,rfl⟩:=hrel
  obtain ⟨x0,x1,x2,x3⟩:=B1.out.cells4
  have yf:=B1.out.fr
  have hcase:k<m∨k=m:=by omega
  rcases hcase with hlt | rfl
  ·have hneq:∃ y:Int,vtab[k]?=some y∧v≠y∧(v == y)=false:=by
    have:m=1∨m=2∨m=3:=by omega
    rcases this with rfl | rfl | rfl
    all_goals
     injection hv with hv
     subst hv
     have:k=0∨k=1∨k=2:=by omega
     rcases this with rfl | rfl | rfl
     all_goals first | omega | exact ⟨_,rfl,by decide,by decide⟩
   obtain ⟨y,hy,hne,hne2⟩:=hneq
   have hk3:k=0∨k=1∨k=2:=by omega
   clear hv
   rcases hk3 with rfl | rfl | rfl
   all_goals
    injection hy with hy
    subst hy
    go_wp2
    go_round
    case rel=>exact ⟨_,hlt,by go_num⟩
    case measure=>simp [intOf];omega
  ·have hk4:k=0∨k=1∨k=2∨k=3:=by omega
   rcases hk4 with rfl | rfl | rfl | rfl
   ·injection hv with hv
    subst hv
    go_wp2
    clear HT t0 t1 t2 t3 i0 i1 i2 i3
    go_region
    all_goals go_wp2
    all_goals
     refine bodyPost_ret (v:=.tuple #[.int .i64 1,cu A n c p' x' a']) (by simp [results,Tryz.results118,go_sem,x0,x1,x2,x3,hz]) rfl ⟨rfl,?_⟩
     repeat (first | exact hb.out | refine bl_set ?_ (by omega) _ | refine bl_drew ?_ | refine bl_alloc ?_ _)
   ·injection hv with hv
    subst hv
    go_wp2
    clear HT t0 t1 t2 t3 i0 i1 i2 i3
    go_region
    all_goals go_wp2
    all_goals
     refine bodyPost_ret (v:=.tuple #[.int .i64 2,cu A n c p' x' a']) (by simp [results,Tryz.results118,go_sem,x0,x1,x2,x3,hz]) rfl ⟨rfl,?_⟩
     repeat (first | exact hb.out | refine bl_set ?_ (by omega) _ | refine bl_drew ?_ | refine bl_alloc ?_ _)
   ·injection hv with hv
    subst hv
    go_wp2
    clear HT t0 t1 t2 t3 i0 i1 i2 i3
    go_region
    all_goals go_wp2
    all_goals
     refine bodyPost_ret (v:=.tuple #[.int .i64 3,cu A n c p' x' a']) (by simp [results,Tryz.results118,go_sem,x0,x1,x2,x3,hz]) rfl ⟨rfl,?_⟩
     repeat (first | exact hb.out | refine bl_set ?_ (by omega) _ | refine bl_drew ?_ | refine bl_alloc ?_ _)
   ·injection hv with hv
    subst hv
    go_wp2
    clear HT t0 t1 t2 t3 i0 i1 i2 i3
    go_region
    all_goals go_wp2
    all_goals
     refine bodyPost_ret (v:=.tuple #[.int .i64 4,cu A n c p' x' a']) (by simp [results,Tryz.results118,go_sem,x0,x1,x2,x3,hz]) rfl ⟨rfl,?_⟩
     repeat (first | exact hb.out | refine bl_set ?_ (by omega) _ | refine bl_drew ?_ | refine bl_alloc ?_ _)
theorem ver_no (A:Option Addr) (n c:Nat) (p a v p' x' a':Int) (w:World) (hT:Th w)
 (N:∀ w1,Below w.heap.size w w1→Calls Tryz.prog 158 #[cu A n c p 0 a,.int .i64 1] w1 fun e w'=>e=.returned (.tuple #[.int .u64 v,cu A n c p' x' a'])∧Below w1.heap.size w1 w')
 (v0:(v == 0)=false) (v1:(v == 50)=false) (v2:(v == 51)=false) (v3:(v == 52)=false) :
 Calls Tryz.prog 118 #[cu A n c p 0 a] w fun e w'=>e=.returned (.tuple #[.int .i64 0,cu A n c p 4 p])∧Below w.heap.size w w':=by
 have HN:=hide N
 have HT:=hide hT
 clear N hT
 have hb:=hide (bl_alloc (bl_new w (.cells #[.slice A n c,.int .i64 p,.int .i64 0,.int .i64 a] 51)) (.cells #[.slice none 0 0,.int .i64 0,.int .i64 0,.int .i64 0] 51))
 go_enter Tryz.func118,Tryz.ntmps118
 go_wp2_with fail
 refine (HN.out _ hb.out).mono ?_
 rintro e w1 ⟨rfl,h1⟩
 have hz:w.heap.size+1<w1.heap.size:=by have:=h1.size;simp at this;omega
 have B1:=hide ((Bx.snd4 w (.cells #[.slice A n c,.int .i64 p,.int .i64 0,.int .i64 a] 51) (.slice none 0 0) (.int .i64 0) (.int .i64 0) (.int .i64 0) 51).below h1)
 replace hb:=hide (bel_next hb.out h1)
 have B0:=hide (((Bx.new4 w (.slice A n c) (.int .i64 p) (.int .i64 0) (.int .i64 a) 51).alloc (.cells #[.slice none 0 0,.int .i64 0,.int .i64 0,.int .i64 0] 51)).below h1)
 replace HT:=hide (HT.out.below hb.out)
 clear h1
 replace HT:=hide (HT.out.below (bl_new w1 (.cells #[.slice A n c,.int .i64 p',.int .i64 x',.int .i64 a'] 51)))
 obtain ⟨t0,t1,t2,t3⟩:=HT.out.cells
 have i0:=vix0
 have i1:=vix1
 have i2:=vix2
 have i3:=vix3
 go_wp2
 go_loop [14] (fun i=>∃ k:Nat,k≤4∧i=.int .i64 (k:Nat)) (fun i=>4 - (intOf i).toNat)
 case atStart=>exact ⟨0,by omega,rfl⟩
 case round =>
  obtain ⟨k,hk,rfl⟩:=hrel
  have hk3:k=0∨k=1∨k=2∨k=3∨k=4:=by omega
  rcases hk3 with rfl | rfl | rfl | rfl | rfl
  ·go_wp2
   go_round
   case rel=>exact ⟨1,by omega,by go_num⟩
   case measure=>simp [intOf]
  ·go_wp2
   go_round
   case rel=>exact ⟨2,by omega,by go_num⟩
   case measure=>simp [intOf]
  ·go_wp2
   go_round
   case rel=>exact ⟨3,by omega,by go_num⟩
   case measure=>simp [intOf]
  ·go_wp2
   go_round
   case rel=>exact ⟨4,by omega,by go_num⟩
   case measure=>simp [intOf]
  ·obtain ⟨x0,x1,x2,x3⟩:=B0.out.cells4
   obtain ⟨z0,z1,z2,z3⟩:=B1.out.cells4
   have yf:=B1.out.fr
   clear HT t0 t1 t2 t3 i0 i1 i2 i3
   have hz0:w.heap.size<w1.heap.size:=by omega
   have B1':=hide (B1.out.alloc (.cells #[.slice A n c,.int .i64 p',.int .i64 x',.int .i64 a'] 51))
   go_wp2_with fail
   refine (cu_.Fail_ok _ _ _ _ _ _ _ _ (by omega)).mono ?_
   rintro e w2 ⟨rfl,h2⟩
   obtain ⟨u0,u1,u2,u3⟩:=(B1'.out.below h2).cells4
   have uf:=(B1'.out.below h2).fr
   replace hb:=hide (bel_next (bl_alloc hb.out _) h2)
   clear h2 B1' x0 x1 x2 x3 z0 z1 z2 z3 yf
   go_wp2
   refine bodyPost_ret (v:=.tuple #[.int .i64 0,cu A n c p 4 p]) (by simp [results,Tryz.results118,go_sem,u0,u1,u2,u3]) rfl ⟨rfl,?_⟩
   repeat (first | exact hb.out | refine bl_set ?_ (by omega) _ | refine bl_drew ?_ | refine bl_alloc ?_ _)
end hd_
namespace hd_
def hL (v:Int) (vs:Nat→Int) (i:Nat):List Value:=.int .i64 v :: (List.range 6).map (fun j=>.int .u32 (if j<i then vs j else 0))
theorem hL_set (v:Int) (vs:Nat→Int) (i:Nat) (h:i<6):(hL v vs i).set (i+1) (.int .u32 (vs i))=hL v vs (i+1):=by
 unfold hL
 rw [List.set_cons_succ]
 congr 1
 apply List.ext_getElem
 ·simp
 ·intro j h1 h2
  simp at h1
  rw [List.getElem_set]
  simp
  split
  ·subst i;rw [if_pos (by omega)]
  ·by_cases hj:j<i
   ·rw [if_pos hj,if_pos (by omega)]
   ·rw [if_neg hj,if_neg (by omega)]
def pL (b:Nat):List Value:=(List.range 6).map (fun j=>.pointer (some ⟨b,j+1,none⟩))
theorem decodeCounts (A:Option Addr) (n c b:Nat) (v:Int) (vs P E Q:Nat→Int) (w:World) (hbx:Bx w b (hL v vs 0))
 (N:∀ i,i<6→∀ w1,But b w w1→Calls Tryz.prog 158 #[cu A n c (P i) (E i) (Q i),.int .i64 4] w1 fun e w'=>e=.returned (.tuple #[.int .u64 (vs i),cu A n c (P (i+1)) (E (i+1)) (Q (i+1))])∧Below w1.heap.size w1 w')
 (hU:∀ i,i<6→U32 (vs i)) :
 Calls Tryz.prog 119 #[.pointer (some ⟨b,0,none⟩),cu A n c (P 0) (E 0) (Q 0)] w fun e w'=>e=.returned (cu A n c (P 6) (E 6) (Q 6))∧Bx w' b (hL v vs 6)∧But b w w':=by
 have HN:=hide N
 have HU:=hide hU
 have hlt:=hbx.lt
 have HB:=hide ((hbx.alloc (.cells #[.slice A n c,.int .i64 (P 0),.int .i64 (E 0),.int .i64 (Q 0)] 51)).alloc (.cells #[.slice none 0 0,.int .i64 0,.int .i64 0,.int .i64 0] 51))
 have B0:=hide ((Bx.new4 w (.slice A n c) (.int .i64 (P 0)) (.int .i64 (E 0)) (.int .i64 (Q 0)) 51).alloc (.cells #[.slice none 0 0,.int .i64 0,.int .i64 0,.int .i64 0] 51))
 have B1:=hide (Bx.snd4 w (.cells #[.slice A n c,.int .i64 (P 0),.int .i64 (E 0),.int .i64 (Q 0)] 51) (.slice none 0 0) (.int .i64 0) (.int .i64 0) (.int .i64 0) 51)
 have hb:=hide (bl_alloc (bl_new w (.cells #[.slice A n c,.int .i64 (P 0),.int .i64 (E 0),.int .i64 (Q 0)] 51)) (.cells #[.slice none 0 0,.int .i64 0,.int .i64 0,.int .i64 0] 51))
 clear N hU hbx
 go_enter Tryz.func119,Tryz.ntmps119
 go_wp2_with fail
 refine (counts _ _).mono ?_
 rintro e w1 ⟨rfl,h1⟩
 have hz:w.heap.size+1<w1.heap.size:=by have:=h1.size;simp at this;omega
 replace HB:=hide (HB.out.below h1)
 replace B0:=hide (B0.out.below h1)
 replace B1:=hide (B1.out.below h1)
 replace hb:=hide (bel_next hb.out h1)
 clear h1
 unfold ptrs
 have HP:=hide (show Bx (w1.alloc (.cells #[.pointer (some ⟨b,1,none⟩),.pointer (some ⟨b,2,none⟩),.pointer (some ⟨b,3,none⟩),.pointer (some ⟨b,4,none⟩),.pointer (some ⟨b,5,none⟩),.pointer (some ⟨b,6,none⟩)] 164)) w1.heap.size (pL b) from Bx.new w1 (pL b) 164)
 have hz2:w1.heap.size<(w1.alloc (.cells #[.pointer (some ⟨b,1,none⟩),.pointer (some ⟨b,2,none⟩),.pointer (some ⟨b,3,none⟩),.pointer (some ⟨b,4,none⟩),.pointer (some ⟨b,5,none⟩),.pointer (some ⟨b,6,none⟩)] 164)).heap.size:=by simp
 replace HB:=hide (HB.out.alloc (.cells #[.pointer (some ⟨b,1,none⟩),.pointer (some ⟨b,2,none⟩),.pointer (some ⟨b,3,none⟩),.pointer (some ⟨b,4,none⟩),.pointer (some ⟨b,5,none⟩),.pointer (some ⟨b,6,none⟩)] 164))
 replace B0:=hide (B0.out.alloc (.cells #[.pointer (some ⟨b,1,none⟩),.pointer (some ⟨b,2,none⟩),.pointer (some ⟨b,3,none⟩),.pointer (some ⟨b,4,none⟩),.pointer (some ⟨b,5,none⟩),.pointer (some ⟨b,6,none⟩)] 164))
 replace B1:=hide (B1.out.alloc (.cells #[.pointer (some ⟨b,1,none⟩),.pointer (some ⟨b,2,none⟩),.pointer (some ⟨b,3,none⟩),.pointer (some ⟨b,4,none⟩),.pointer (some ⟨b,5,none⟩),.pointer (some ⟨b,6,none⟩)] 164))
 replace hb:=hide (But.of (b:=b) (bl_alloc hb.out (.cells #[.pointer (some ⟨b,1,none⟩),.pointer (some ⟨b,2,none⟩),.pointer (some ⟨b,3,none⟩),.pointer (some ⟨b,4,none⟩),.pointer (some ⟨b,5,none⟩),.pointer (some ⟨b,6,none⟩)] 164)))
 go_upto_region 2 with fail
 generalize (w1.alloc (.cells #[.pointer (some ⟨b,1,none⟩),.pointer (some ⟨b,2,none⟩),.pointer (some ⟨b,3,none⟩),.pointer (some ⟨b,4,none⟩),.pointer (some ⟨b,5,none⟩),.pointer (some ⟨b,6,none⟩)] 164))=u at *
 obtain ⟨g5,hg5⟩:∃ g,g=w1.heap.size:=⟨_,rfl⟩
 obtain ⟨g3,hg3⟩:∃ g,g=w.heap.size:=⟨_,rfl⟩
 rw [← hg5] at HP hz hz2 ⊢
 rw [← hg3] at hlt hz B0 B1 ⊢
 have HG:=hide hg3
 have n1:g3≠b:=by omega
 have n2:g3≠g5:=by omega
 have n3:g3+1≠g3:=by omega
 have n4:b≠g3:=by omega
 have n5:b≠g5:=by omega
 have n6:b≠g3+1:=by omega
 have n7:g5≠g3:=by omega
 clear hg5 hg3
 go_wp2
 go_loopw [10] (fun iv wr=>∃ i:Nat,i≤6∧iv=.int .i64 i∧Hid (Bx wr b (hL v vs i))∧Hid (Bx wr g3 [.slice A n c,.int .i64 (P i),.int .i64 (E i),.int .i64 (Q i)])∧Hid (Bx wr (g3+1) [.slice none 0 0,.int .i64 0,.int .i64 0,.int .i64 0])∧Hid (Bx wr g5 (pL b))∧Hid (But b w wr)) (fun iv _=>6 - (intOf iv).toNat)
 case atStart=>exact ⟨0,by omega,rfl,HB,B0,B1,HP,hb⟩
 case round =>
  clear HB B0 B1 HP hb
  obtain ⟨i,hi,rfl,HB,B0,B1,HP,hb⟩:=hrel
  by_cases hlt6:i<6
  ·have hi6:(i:Int)<6:=by omega
   obtain ⟨x0,x1,x2,x3⟩:=B0.out.cells4
   go_wp2_with fail
   refine (HN.out i hlt6 _ hb.out).mono ?_
   rintro e w2 ⟨rfl,h1⟩
   clear x0 x1 x2 x3
   replace HB:=hide (HB.out.below h1)
   replace B0:=hide (B0.out.below h1)
   replace B1:=hide (B1.out.below h1)
   replace HP:=hide (HP.out.below h1)
   replace hb:=hide (hb.out.next h1)
   clear h1
   obtain ⟨x0,x1,x2,x3⟩:=B0.out.cells4
   have xf:=B0.out.fr
   go_upto_region 7 with fail
   clear x0 x1 x2 x3 xf
   have hw0:w.heap.size≤g3:=by rw [HG.out];exact Nat.le_refl _
   have HP':=hide (HP.out.away4 (a:=.slice A n c) (b:=.int .i64 (P (i+1))) (c:=.int .i64 (E (i+1))) (d:=.int .i64 (Q (i+1))) n2)
   have HB':=hide (HB.out.away4 (a:=.slice A n c) (b:=.int .i64 (P (i+1))) (c:=.int .i64 (E (i+1))) (d:=.int .i64 (Q (i+1))) n1)
   have B1':=hide (B1.out.away4 (a:=.slice A n c) (b:=.int .i64 (P (i+1))) (c:=.int .i64 (E (i+1))) (d:=.int .i64 (Q (i+1))) (Ne.symm n3))
   have B0':=hide (B0.out.store4 (a:=.slice A n c) (b:=.int .i64 (P (i+1))) (c:=.int .i64 (E (i+1))) (d:=.int .i64 (Q (i+1))))
   have hb':=hide ((((hb.out.setNew hw0 (o:=0) (.slice A n c)).setNew hw0 (o:=1) (.int .i64 (P (i+1)))).setNew hw0 (o:=2) (.int .i64 (E (i+1)))).setNew hw0 (o:=3) (.int .i64 (Q (i+1))))
   clear HP HB B1 B0 hb
   generalize ((((w2.setCell ⟨g3,0,none⟩ (.slice A n c)).setCell ⟨g3,1,none⟩ (.int .i64 (P (i+1)))).setCell ⟨g3,2,none⟩ (.int .i64 (E (i+1)))).setCell ⟨g3,3,none⟩ (.int .i64 (Q (i+1))))=w3 at *
   have c1:w3.cell? ⟨g5,i,none⟩=some (.pointer (some ⟨b,i+1,none⟩)):=HP'.out.2.1 i _ (by unfold pL;rw [List.getElem?_map,List.getElem?_range hlt6];rfl)
   have c2:w3.cell? ⟨b,i+1,none⟩=some (.int .u32 0):=HB'.out.2.1 (i+1) _ (by unfold hL;rw [List.getElem?_cons_succ,List.getElem?_map,List.getElem?_range hlt6,Option.map_some,if_neg (by omega)])
   have c3:=HB'.out.2.2 (i+1)
   have c4:=HB'.out.lt
   obtain ⟨u0,u1⟩:=HU.out i hlt6
   have c5:IntKind.u32.wrap (vs i)=vs i:=by rw [IntKind.wrap_u32];omega
   go_wp2
   go_round
   case rel =>
    refine ⟨i+1,hlt6,by go_num,?_,hide (B0'.out.set_ne _ n4 _),hide (B1'.out.set_ne _ n6 _),hide (HP'.out.set_ne _ n5 _),hide (hb'.out.set _)⟩
    rw [← hL_set v vs i hlt6]
    exact hide (HB'.out.set _ _ (by unfold hL;simp;omega))
   case measure=>simp [intOf];omega
  ·obtain rfl:i=6:=by omega
   obtain ⟨x0,x1,x2,x3⟩:=B0.out.cells4
   obtain ⟨z0,z1,z2,z3⟩:=B1.out.cells4
   have zf:=B1.out.fr
   have zl:=B1.out.lt
   go_wp2
   have hw0:w.heap.size≤g3+1:=by rw [HG.out];omega
   refine bodyPost_ret (v:=cu A n c (P 6) (E 6) (Q 6)) (by simp [results,Tryz.results119,go_sem,z0,z1,z2,z3]) rfl ⟨rfl,HB.out.away4 (Ne.symm n6),?_⟩
   exact (((hb.out.setNew hw0 _).setNew hw0 _).setNew hw0 _).setNew hw0 _
end hd_
theorem Bx.cells1 {w:World} {g:Nat} {v:Value} {vs:List Value} (h:Bx w g (v :: vs)):w.cell? ⟨g,0,none⟩=some v:=h.2.1 0 _ rfl
namespace hd_
theorem pix (g i:Nat) (w:World) (h:i<6):(Instr.index 164 (.agg #[.pointer (some ⟨g,1,none⟩),.pointer (some ⟨g,2,none⟩),.pointer (some ⟨g,3,none⟩),.pointer (some ⟨g,4,none⟩),.pointer (some ⟨g,5,none⟩),.pointer (some ⟨g,6,none⟩)]) (.int .i64 i)).run Tryz.prog w=.ok (.pointer (some ⟨g,i+1,none⟩)) w:=by
 match i,h with
 | 0,_=>rfl
 | 1,_=>rfl
 | 2,_=>rfl
 | 3,_=>rfl
 | 4,_=>rfl
 | 5,_=>rfl
def fs (h:Hd):List Int:=[h.ut,h.sd,h.lp,h.tm,h.ty,h.ch]
theorem fs_at {h:Hd} (hok:h.ok) {i:Nat} (hi:i<6):∃ x,(fs h)[i]?=some x∧U32 x:=by
 match i,hi with
 | 0,_=>exact ⟨_,rfl,hok.a⟩
 | 1,_=>exact ⟨_,rfl,hok.b⟩
 | 2,_=>exact ⟨_,rfl,hok.c⟩
 | 3,_=>exact ⟨_,rfl,hok.d⟩
 | 4,_=>exact ⟨_,rfl,hok.e⟩
 | 5,_=>exact ⟨_,rfl,hok.f⟩
def encI (h:Hd) (i:Nat):List Int:=magicL++(verB h.ver :: (zeroL++((fs h).take i).flatMap (be 4)))
theorem encI_step (h:Hd) (i:Nat) (x:Int) (hx:(fs h)[i]?=some x):encI h i++be 4 x=encI h (i+1):=by
 unfold encI
 rw [List.take_add_one,hx]
 simp
theorem encI_end (h:Hd):encI h 6=encH h:=by unfold encI encH fs;simp
theorem Encode (h:Hd) (w:World) (hT:Th w) (hok:h.ok):Calls Tryz.prog 52 #[h.val] w fun e w'=>∃ (A:Option Addr) (c:Nat),e=.returned (.slice A 44 c)∧Ow w' w.heap.size 5 A 44 c ((encH h).map (Value.int .u8))∧Below w.heap.size w w':=by
 have HF:=hide (fun i (hi:i<6)=>fs_at hok hi)
 have HS:=hide (encI_step h)
 have HE:=hide (encI_end h)
 have bx:=hide (Bx.new w [.int .i64 h.ver,.int .u32 h.ut,.int .u32 h.sd,.int .u32 h.lp,.int .u32 h.tm,.int .u32 h.ty,.int .u32 h.ch] 55)
 have hb:=hide (bl_new w (.cells #[.int .i64 h.ver,.int .u32 h.ut,.int .u32 h.sd,.int .u32 h.lp,.int .u32 h.tm,.int .u32 h.ty,.int .u32 h.ch] 55))
 have HT:=hide (hT.below hb.out)
 have hfx:=hide (fun (i:Nat) (x:Int) (hx:(fs h)[i]?=some x)=>(show ([.int .i64 h.ver,.int .u32 h.ut,.int .u32 h.sd,.int .u32 h.lp,.int .u32 h.tm,.int .u32 h.ty,.int .u32 h.ch]:List Value)[i+1]?=some (.int .u32 x) by
  show ((fs h).map (Value.int .u32))[i]?=_
  rw [List.getElem?_map,hx];rfl))
 have hv:∃ j:Nat,j<4∧h.ver=(j:Int)+1∧([0,50,51,52]:List Int)[j]?=some (verB h.ver):=by
  obtain ⟨v0,v1,_,_,_,_,_,_⟩:=hok
  have:h.ver=1∨h.ver=2∨h.ver=3∨h.ver=4:=by omega
  rcases this with e | e | e | e <;> rw [e]
  ·exact ⟨0,by omega,rfl,rfl⟩
  ·exact ⟨1,by omega,rfl,rfl⟩
  ·exact ⟨2,by omega,rfl,rfl⟩
  ·exact ⟨3,by omega,rfl,rfl⟩
 obtain ⟨j,hj,hjv,hvb⟩:=hv
 have HI:=hide (show encI h 0=magicL++[verB h.ver]++zeroL by unfold encI;simp)
 generalize hVB:verB h.ver=vb at *
 have HC:=hide (HT.out.2 j vb hvb)
 clear hvb hVB hT hok
 obtain ⟨ver,ut,sd,lp,tm,ty,ch⟩:=h
 simp only at hjv
 subst hjv
 generalize hEI:encI ⟨(j:Int)+1,ut,sd,lp,tm,ty,ch⟩=enc at *
 generalize hFS:fs ⟨(j:Int)+1,ut,sd,lp,tm,ty,ch⟩=fsl at *
 generalize hEN:encH ⟨(j:Int)+1,ut,sd,lp,tm,ty,ch⟩=enh at *
 clear hEI hFS hEN
 have d1:¬ ((j:Int)+1<1):=by omega
 have d2:¬ (4<(j:Int)+1):=by omega
 go_enter Tryz.func52,Tryz.ntmps52
 go_upto_region 3 with fail
 obtain ⟨W0,hW0⟩:∃ W0,W0=w.alloc (.cells #[.int .i64 ((j:Int)+1),.int .u32 ut,.int .u32 sd,.int .u32 lp,.int .u32 tm,.int .u32 ty,.int .u32 ch] 55):=⟨_,rfl⟩
 rw [← hW0] at bx hb HT HC ⊢
 have hs0:=hide (show W0.heap.size=w.heap.size+1 by rw [hW0];simp)
 clear hW0
 have hcI:=hide (bx.out.cells1)
 go_upto_region 4 with (refine mk elU8h (b:=W0.heap.size) (bl_refl W0) (Nat.le_refl _) (Nat.le_refl _) rfl (.const (.int .i64 0)) (.const (.int .i64 44)) rfl .i64 .i64 0 44 0 44 rfl rfl rfl rfl (by omega) (by omega) (by decide) ?_;intro w1 hO hB)
 have HO:=hide hO
 replace hB:=hide hB
 clear hO
 go_upto_region 5 with (refine apStr elU8h Tryz.underlying9 HO.out hB.out (Nat.le_refl _) (.tmp 15) (.const (.string ⟨#[84,90,105,102]⟩)) ⟨#[84,90,105,102]⟩ rfl rfl rfl rfl (by decide) ?_;intro A2 c2 w2 hO2 hB2 hg2)
 replace HO:=hide (show Ow w2 W0.heap.size 5 A2 4 c2 (magicL.map (Value.int .u8)) from hO2)
 replace hB:=hide hB2
 clear hO2 hB2 hg2
 have HC2:=cellE hB.out HC.out
 have HI2:=cellE hB.out hcI.out
 have d3:IntKind.i64.wrap ((j:Int)+1 - 1)=j:=by rw [IntKind.wrap_i64];omega
 have d4:(j:Int)<4:=by omega
 go_upto_region 6 with (refine ap1A elU8h HO.out hB.out (Nat.le_refl _) (.tmp 17) (.tmp 23) (.int .u8 vb) rfl rfl rfl rfl rfl (by decide) (by decide) ?_;intro A3 c3 w3 hO3 hB3 hg3)
 replace HO:=hide (show Ow w3 W0.heap.size 5 A3 5 c3 ((magicL++[vb]).map (Value.int .u8)) from hO3)
 replace hB:=hide hB3
 clear hO3 hB3 hg3 HC2 HI2
 go_upto_region 7 with (refine apZ elU8h Tryz.underlying3 rfl HO.out hB.out (Nat.le_refl _) (.tmp 25) (.const (.int .i64 15)) .i64 15 rfl rfl rfl rfl (by omega) (by decide) (by decide) ?_;intro A4 c4 w4 hO4 hB4 hg4)
 replace HO:=hide (show Ow w4 W0.heap.size 5 A4 20 c4 ((enc 0).map (Value.int .u8)) by rw [HI.out];exact hO4)
 replace hB:=hide hB4
 clear hO4 hB4 hg4
 go_wp2_with fail
 refine (counts _ _).mono ?_
 rintro e w5 ⟨rfl,h1⟩
 replace HO:=hide (HO.out.below h1)
 replace hB:=hide (bel_next hB.out h1)
 clear h1
 unfold ptrs
 go_wp2
 go_loopw [3,28] (fun sv iv wr=>∃ (i:Nat) (A:Option Addr) (c:Nat),i≤6∧iv=.int .i64 i∧sv=.slice A (20+4 * i) c∧Hid (Ow wr W0.heap.size 5 A (20+4 * i) c ((enc i).map (Value.int .u8)))∧Hid (Below W0.heap.size W0 wr)) (fun _ iv _=>6 - (intOf iv).toNat)
 case atStart=>exact ⟨0,A4,c4,by omega,rfl,rfl,HO,hB⟩
 case round =>
  clear HO hB
  obtain ⟨i,A,c,hi,rfl,rfl,HO,hB⟩:=hrel
  by_cases hlt6:i<6
  ·have hi6:(i:Int)<6:=by omega
   have ix:=fun W=>pix w.heap.size i W hlt6
   obtain ⟨x,hx,x0,x1⟩:=HF.out i hlt6
   have hcx:=cellE hB.out (bx.out.2.1 (i+1) _ (hfx.out i x hx))
   have c5:IntKind.u64.wrap x=x:=by rw [IntKind.wrap_u64];omega
   have hst:=hide (HS.out i x hx)
   clear hx
   go_wp2_with fail
   refine (be_.Append A (20+4 * i) c (enc i) 4 x _ (.inr (.inl rfl)) (by omega) HO.out.rd x0 (by omega)).mono ?_
   rintro e w6 ⟨A6,c6,rfl,hO6,h1⟩
   clear hcx
   have hs6:=HO.out.base
   replace hB:=hide (bel_next hB.out h1)
   have hst2:=hst.out
   replace HO:=hide (show Ow w6 W0.heap.size 5 A6 (20+4 * (i+1)) c6 ((enc (i+1)).map (Value.int .u8)) by rw [← hst2];exact hO6.mono hs6)
   clear hO6 hst2
   go_wp2
   go_round
   case rel=>exact ⟨i+1,A6,c6,hlt6,by go_num,rfl,HO,hB⟩
   case measure=>simp [intOf];omega
  ·obtain rfl:i=6:=by omega
   go_wp2
   go_ret
   exact ⟨A,c,rfl,by rw [← HE.out];exact HO.out.mono (by rw [hs0.out];omega),bel_next hb.out hB.out⟩
end hd_
theorem alloc4 (w:World) (a b c d:List Value) (T1 T2 T3 T4:TypeId):∃ u,u=(((w.alloc (.cells a.toArray T1)).alloc (.cells b.toArray T2)).alloc (.cells c.toArray T3)).alloc (.cells d.toArray T4)∧Bx u w.heap.size a∧Bx u (w.heap.size+1) b∧Bx u (w.heap.size+1+1) c∧Bx u (w.heap.size+1+1+1) d∧Below w.heap.size w u∧u.heap.size=w.heap.size+4:=by
 refine ⟨_,rfl,(((Bx.new w a T1).alloc _).alloc _).alloc _,?_,?_,?_,bl_alloc (bl_alloc (bl_alloc (bl_new _ _) _) _) _,by simp⟩
 ·have:=((Bx.new (w.alloc (.cells a.toArray T1)) b T2).alloc (.cells c.toArray T3)).alloc (.cells d.toArray T4)
  simpa using this
 ·have:=(Bx.new ((w.alloc (.cells a.toArray T1)).alloc (.cells b.toArray T2)) c T3).alloc (.cells d.toArray T4)
  simpa using this
 ·have:=Bx.new (((w.alloc (.cells a.toArray T1)).alloc (.cells b.toArray T2)).alloc (.cells c.toArray T3)) d T4
  simpa using this
theorem rd_mark (W:World) (l:List Value) (T:TypeId) (p:Nat × Nat):Rd (W.alloc (.cells l.toArray T p)) (some ⟨W.heap.size,0,none⟩) l.length l:=by
 refine ⟨rfl,fun h=>⟨_,rfl,fun i v hv=>?_⟩⟩
 rw [addr_flat,Nat.zero_add]
 have e:(W.alloc (.cells l.toArray T p)).cell? ⟨W.heap.size,i,none⟩=l.toArray[i]?:=by
  simp only [World.cell?,World.alloc,Array.getElem?_push,if_true,Option.isSome_none,Bool.false_eq_true,if_false]
 rw [e]
 exact (List.getElem?_toArray ..).trans hv
theorem hcells7 {w:World} {g:Nat} {a b c d e f k:Value} (h:Bx w g [a,b,c,d,e,f,k]):w.cell? ⟨g,0,none⟩=some a∧w.cell? ⟨g,1,none⟩=some b∧w.cell? ⟨g,2,none⟩=some c∧w.cell? ⟨g,3,none⟩=some d∧w.cell? ⟨g,4,none⟩=some e∧w.cell? ⟨g,5,none⟩=some f∧w.cell? ⟨g,6,none⟩=some k :=
 ⟨h.2.1 0 _ rfl,h.2.1 1 _ rfl,h.2.1 2 _ rfl,h.2.1 3 _ rfl,h.2.1 4 _ rfl,h.2.1 5 _ rfl,h.2.1 6 _ rfl⟩
namespace hd_
theorem Decode_gen (A:Option Addr) (n c:Nat) (p p1 e1 a1 v p2 e2 a2:Int) (vs P E Q:Nat→Int) (f0 f1 f2 f3 f4 f5 P6 E6 Q6 pf ef af:Int) (H:Hd) (w:World) (hT:Th w)
 (E1:∀ w1,Below w.heap.size w w1→∀ B d,Rd w1 B 4 (magicL.map (Value.int .u8))→Calls Tryz.prog 78 #[cu A n c p 0 0,.slice B 4 d,.int .i64 3] w1 fun e w'=>e=.returned (cu A n c p1 e1 a1)∧Below w1.heap.size w1 w')
 (E2:∀ w1,Below w.heap.size w w1→Calls Tryz.prog 118 #[cu A n c p1 e1 a1] w1 fun e w'=>e=.returned (.tuple #[.int .i64 v,cu A n c p2 e2 a2])∧Below w1.heap.size w1 w')
 (E3:∀ w1,Below w.heap.size w w1→∀ B d,Rd w1 B 15 (zeroL.map (Value.int .u8))→Calls Tryz.prog 78 #[cu A n c p2 e2 a2,.slice B 15 d,.int .i64 5] w1 fun e w'=>e=.returned (cu A n c (P 0) (E 0) (Q 0))∧Below w1.heap.size w1 w')
 (N:∀ i,i<6→∀ w1,Below w.heap.size w w1→Calls Tryz.prog 158 #[cu A n c (P i) (E i) (Q i),.int .i64 4] w1 fun e w'=>e=.returned (.tuple #[.int .u64 (vs i),cu A n c (P (i+1)) (E (i+1)) (Q (i+1))])∧Below w1.heap.size w1 w')
 (hU:∀ i,i<6→U32 (vs i)) (r:Bool) (hr:r=(Hd.mk v f0 f1 f2 f3 f4 f5).con)
 (hf:vs 0=f0∧vs 1=f1∧vs 2=f2∧vs 3=f3∧vs 4=f4∧vs 5=f5∧P 6=P6∧E 6=E6∧Q 6=Q6)
 (hcase:(E6=0∧r=true∧H=⟨v,f0,f1,f2,f3,f4,f5⟩∧pf=P6∧ef=0∧af=Q6)∨(E6=0∧r=false∧H=Hd0∧pf=P6∧ef=6∧af=p)∨(E6≠0∧H=Hd0∧pf=P6∧ef=E6∧af=Q6)) :
 Calls Tryz.prog 73 #[cu A n c p 0 0] w fun z w'=>z=.returned (.tuple #[H.val,cu A n c pf ef af])∧Below w.heap.size w w':=by
 have HE1:=hide E1
 have HE2:=hide E2
 have HE3:=hide E3
 have HN:=hide N
 have HU:=hide hU
 have HR:=hide hr
 have HTw:=hide hT
 have HTw:=hide hT
 have HTw:=hide hT
 have HTw:=hide hT
 have HTw:=hide hT
 have HTw:=hide hT
 have HTw:=hide hT
 have HT:=hide hT
 have HF:=hide hf
 have HCS:=hide hcase
 clear E1 E2 E3 N hU hr hT hf hcase
 go_enter Tryz.func73,Tryz.ntmps73
 go_upto_region 3 with fail
 obtain ⟨u,hu,bc,bh,bd,bt,hb,hsz⟩:=alloc4 w [.slice A n c,.int .i64 p,.int .i64 0,.int .i64 0] [.int .i64 0,.int .u32 0,.int .u32 0,.int .u32 0,.int .u32 0,.int .u32 0,.int .u32 0] [.slice none 0 0,.int .i64 0,.int .i64 0,.int .i64 0] [.int .i64 0,.int .u32 0,.int .u32 0,.int .u32 0,.int .u32 0,.int .u32 0,.int .u32 0] 51 55 51 55
 rw [← hu]
 clear hu
 obtain ⟨g0,hg0⟩:∃ g,g=w.heap.size:=⟨_,rfl⟩
 obtain ⟨g1,hg1⟩:∃ g,g=w.heap.size+1:=⟨_,rfl⟩
 obtain ⟨g2,hg2⟩:∃ g,g=w.heap.size+1+1:=⟨_,rfl⟩
 obtain ⟨g3,hg3⟩:∃ g,g=w.heap.size+1+1+1:=⟨_,rfl⟩
 rw [← hg0] at bc
 rw [← hg1] at bh
 rw [← hg2] at bd
 rw [← hg3] at bt
 rw [← hg3,← hg2,← hg1,← hg0]
 have n01:g0≠g1:=by omega
 have n02:g0≠g2:=by omega
 have n03:g0≠g3:=by omega
 have n12:g1≠g2:=by omega
 have n13:g1≠g3:=by omega
 have n23:g2≠g3:=by omega
 have n10:g1≠g0:=by omega
 have n20:g2≠g0:=by omega
 have n30:g3≠g0:=by omega
 have n31:g3≠g1:=by omega
 have n32:g3≠g2:=by omega
 have n21:g2≠g1:=by omega
 have l0:w.heap.size≤g0:=by omega
 have l1:w.heap.size≤g1:=by omega
 have l2:w.heap.size≤g2:=by omega
 have l3:w.heap.size≤g3:=by omega
 have HG:=hide hg3
 clear hg0 hg1 hg2 hg3 hsz
 replace bc:=hide bc
 replace bh:=hide bh
 replace bd:=hide bd
 replace bt:=hide bt
 replace hb:=hide hb
 replace HT:=hide (HT.out.below hb.out)
 have HT0:=HTw
 obtain ⟨x0,x1,x2,x3⟩:=bc.out.cells4
 have cv:=fun (W:World) (C:Array Value)=>Lib.run_convert_bytes_const (P:=Tryz.prog) W 22 5 C 4 4 Tryz.underlying22 Tryz.underlying5
 go_wp2_with fail
 refine (HE1.out _ (bl_alloc hb.out _) _ _ (rd_mark u (magicL.map (Value.int .u8)) 5 (4,5))).mono ?_
 rintro e w1 ⟨rfl,h1⟩
 clear x0 x1 x2 x3
 replace bc:=hide (bc.out.alloc (.cells #[.int .u8 84,.int .u8 90,.int .u8 105,.int .u8 102] 5 (4,5)))
 replace bh:=hide (bh.out.alloc (.cells #[.int .u8 84,.int .u8 90,.int .u8 105,.int .u8 102] 5 (4,5)))
 replace bd:=hide (bd.out.alloc (.cells #[.int .u8 84,.int .u8 90,.int .u8 105,.int .u8 102] 5 (4,5)))
 replace bt:=hide (bt.out.alloc (.cells #[.int .u8 84,.int .u8 90,.int .u8 105,.int .u8 102] 5 (4,5)))
 replace HT:=hide (HT.out.below (bl_new _ (.cells #[.int .u8 84,.int .u8 90,.int .u8 105,.int .u8 102] 5 (4,5))))
 replace hb:=hide (bl_alloc hb.out (.cells #[.int .u8 84,.int .u8 90,.int .u8 105,.int .u8 102] 5 (4,5)))
 replace bc:=hide (bc.out.below h1)
 replace bh:=hide (bh.out.below h1)
 replace bd:=hide (bd.out.below h1)
 replace bt:=hide (bt.out.below h1)
 replace HT:=hide (HT.out.below h1)
 replace hb:=hide (bel_next hb.out h1)
 clear h1
 obtain ⟨x0,x1,x2,x3⟩:=bc.out.cells4
 have xf:=bc.out.fr
 go_upto_region 4 with fail
 clear x0 x1 x2 x3 xf
 replace bc:=hide (bc.out.store4 (a:=.slice A n c) (b:=.int .i64 p1) (c:=.int .i64 e1) (d:=.int .i64 a1))
 replace bh:=hide (bh.out.away4 (a:=.slice A n c) (b:=.int .i64 p1) (c:=.int .i64 e1) (d:=.int .i64 a1) n01)
 replace bd:=hide (bd.out.away4 (a:=.slice A n c) (b:=.int .i64 p1) (c:=.int .i64 e1) (d:=.int .i64 a1) n02)
 replace bt:=hide (bt.out.away4 (a:=.slice A n c) (b:=.int .i64 p1) (c:=.int .i64 e1) (d:=.int .i64 a1) n03)
 replace hb:=hide (bl_set4 (a:=.slice A n c) (b:=.int .i64 p1) (c:=.int .i64 e1) (d:=.int .i64 a1) hb.out l0)
 generalize ((((w1.setCell ⟨g0,0,none⟩ (.slice A n c)).setCell ⟨g0,1,none⟩ (.int .i64 p1)).setCell ⟨g0,2,none⟩ (.int .i64 e1)).setCell ⟨g0,3,none⟩ (.int .i64 a1))=u1 at *
 replace HT:=hide (HT0.out.below hb.out)
 obtain ⟨x0,x1,x2,x3⟩:=bc.out.cells4
 go_wp2_with fail
 refine (HE2.out _ hb.out).mono ?_
 rintro e w2 ⟨rfl,h1⟩
 clear x0 x1 x2 x3
 replace bc:=hide (bc.out.below h1)
 replace bh:=hide (bh.out.below h1)
 replace bd:=hide (bd.out.below h1)
 replace bt:=hide (bt.out.below h1)
 replace HT:=hide (HT.out.below h1)
 replace hb:=hide (bel_next hb.out h1)
 clear h1
 obtain ⟨x0,x1,x2,x3⟩:=bc.out.cells4
 have xf:=bc.out.fr
 have t0:=bt.out.2.1 0 _ rfl
 have tf:=bt.out.fr 0
 go_upto_region 5 with fail
 clear x0 x1 x2 x3 xf t0 tf
 replace bt:=hide (show Bx _ g3 (hL v vs 0) from bt.out.set 0 (.int .i64 v) (by decide))
 replace bc:=hide (bc.out.set_ne 0 n30 (.int .i64 v))
 replace bh:=hide (bh.out.set_ne 0 n31 (.int .i64 v))
 replace bd:=hide (bd.out.set_ne 0 n32 (.int .i64 v))
 replace hb:=hide (bl_set hb.out l3 (.int .i64 v) (o:=0))
 replace bc:=hide (bc.out.store4 (a:=.slice A n c) (b:=.int .i64 p2) (c:=.int .i64 e2) (d:=.int .i64 a2))
 replace bh:=hide (bh.out.away4 (a:=.slice A n c) (b:=.int .i64 p2) (c:=.int .i64 e2) (d:=.int .i64 a2) n01)
 replace bd:=hide (bd.out.away4 (a:=.slice A n c) (b:=.int .i64 p2) (c:=.int .i64 e2) (d:=.int .i64 a2) n02)
 replace bt:=hide (bt.out.away4 (a:=.slice A n c) (b:=.int .i64 p2) (c:=.int .i64 e2) (d:=.int .i64 a2) n03)
 replace hb:=hide (bl_set4 (a:=.slice A n c) (b:=.int .i64 p2) (c:=.int .i64 e2) (d:=.int .i64 a2) hb.out l0)
 generalize (((((w2.setCell ⟨g3,0,none⟩ (.int .i64 v)).setCell ⟨g0,0,none⟩ (.slice A n c)).setCell ⟨g0,1,none⟩ (.int .i64 p2)).setCell ⟨g0,2,none⟩ (.int .i64 e2)).setCell ⟨g0,3,none⟩ (.int .i64 a2))=u2 at *
 replace HT:=hide (HT0.out.below hb.out)
 obtain ⟨x0,x1,x2,x3⟩:=bc.out.cells4
 have bl:=bc.out.lt
 have hmk:∀ W:World,(Instr.makeSlice 22 (.int .i64 15) (.int .i64 15)).run Tryz.prog W=.ok (.slice (some ⟨W.heap.size,0,none⟩) 15 15) (W.alloc (.cells ((zeroL.map (Value.int .u8)).toArray) 5)):=fun W=>by kernel_rfl
 go_region_with ((go_at_call 78;refine (HE3.out _ (bl_drew (bl_alloc hb.out _)) _ _ ((Ow.lit u2 5 (zeroL.map (Value.int .u8)) (by decide)).rd.drew)).mono ?_;rintro e w3 ⟨rfl,h1⟩;obtain ⟨y0,y1,y2,y3⟩:=(((bc.out.alloc _).drew).below h1).cells4;have yf:=(((bc.out.alloc _).drew).below h1).fr))
 all_goals
  replace bc:=hide (((bc.out.alloc (.cells ((zeroL.map (Value.int .u8)).toArray) 5)).drew).below h1)
  replace bh:=hide (((bh.out.alloc (.cells ((zeroL.map (Value.int .u8)).toArray) 5)).drew).below h1)
  replace bd:=hide (((bd.out.alloc (.cells ((zeroL.map (Value.int .u8)).toArray) 5)).drew).below h1)
  replace bt:=hide (((bt.out.alloc (.cells ((zeroL.map (Value.int .u8)).toArray) 5)).drew).below h1)
  replace hb:=hide (bel_next (bl_drew (bl_alloc hb.out (.cells ((zeroL.map (Value.int .u8)).toArray) 5))) h1)
  clear h1 y0 y1 y2 y3 yf x0 x1 x2 x3 bl hmk
  replace bc:=hide (bc.out.store4 (a:=.slice A n c) (b:=.int .i64 (P 0)) (c:=.int .i64 (E 0)) (d:=.int .i64 (Q 0)))
  replace bh:=hide (bh.out.away4 (a:=.slice A n c) (b:=.int .i64 (P 0)) (c:=.int .i64 (E 0)) (d:=.int .i64 (Q 0)) n01)
  replace bd:=hide (bd.out.away4 (a:=.slice A n c) (b:=.int .i64 (P 0)) (c:=.int .i64 (E 0)) (d:=.int .i64 (Q 0)) n02)
  replace bt:=hide (bt.out.away4 (a:=.slice A n c) (b:=.int .i64 (P 0)) (c:=.int .i64 (E 0)) (d:=.int .i64 (Q 0)) n03)
  replace hb:=hide (bl_set4 (a:=.slice A n c) (b:=.int .i64 (P 0)) (c:=.int .i64 (E 0)) (d:=.int .i64 (Q 0)) hb.out l0)
  generalize ((((w3.setCell ⟨g0,0,none⟩ (.slice A n c)).setCell ⟨g0,1,none⟩ (.int .i64 (P 0))).setCell ⟨g0,2,none⟩ (.int .i64 (E 0))).setCell ⟨g0,3,none⟩ (.int .i64 (Q 0)))=u3 at *
  replace HT:=hide (HT0.out.below hb.out)
  obtain ⟨x0,x1,x2,x3⟩:=bc.out.cells4
  go_wp2_with fail
  refine (decodeCounts A n c g3 v vs P E Q _ bt.out (fun i hi W hW=>HN.out i hi W (But.down hb.out l3 hW)) HU.out).mono ?_
  obtain ⟨k0,k1,k2,k3,k4,k5,k6,k7,k8⟩:=HF.out
  rw [k6,k7,k8]
  rintro e w4 ⟨rfl,bt',h1⟩
  clear x0 x1 x2 x3 bt
  have bt:=hide (show Bx w4 g3 [.int .i64 v,.int .u32 (vs 0),.int .u32 (vs 1),.int .u32 (vs 2),.int .u32 (vs 3),.int .u32 (vs 4),.int .u32 (vs 5)] from bt')
  rw [k0,k1,k2,k3,k4,k5] at bt
  clear bt' k0 k1 k2 k3 k4 k5 k6 k7 k8
  replace bc:=hide (bc.out.but h1 n03)
  replace bh:=hide (bh.out.but h1 n13)
  replace bd:=hide (bd.out.but h1 n23)
  replace hb:=hide (But.down hb.out l3 h1)
  clear h1
  obtain ⟨x0,x1,x2,x3⟩:=bc.out.cells4
  have xf:=bc.out.fr
  go_upto_region 7 with fail
  clear x0 x1 x2 x3 xf
  replace bc:=hide (bc.out.store4 (a:=.slice A n c) (b:=.int .i64 P6) (c:=.int .i64 E6) (d:=.int .i64 Q6))
  replace bh:=hide (bh.out.away4 (a:=.slice A n c) (b:=.int .i64 P6) (c:=.int .i64 E6) (d:=.int .i64 Q6) n01)
  replace bd:=hide (bd.out.away4 (a:=.slice A n c) (b:=.int .i64 P6) (c:=.int .i64 E6) (d:=.int .i64 Q6) n02)
  replace bt:=hide (bt.out.away4 (a:=.slice A n c) (b:=.int .i64 P6) (c:=.int .i64 E6) (d:=.int .i64 Q6) n03)
  replace hb:=hide (bl_set4 (a:=.slice A n c) (b:=.int .i64 P6) (c:=.int .i64 E6) (d:=.int .i64 Q6) hb.out l0)
  generalize ((((w4.setCell ⟨g0,0,none⟩ (.slice A n c)).setCell ⟨g0,1,none⟩ (.int .i64 P6)).setCell ⟨g0,2,none⟩ (.int .i64 E6)).setCell ⟨g0,3,none⟩ (.int .i64 Q6))=u4 at *
  replace HT:=hide (HT0.out.below hb.out)
  obtain ⟨x0,x1,x2,x3,x4,x5,x6⟩:=hcells7 bt.out
  go_wp2_with fail
  refine (Consistent ⟨v,f0,f1,f2,f3,f4,f5⟩ _ HT.out).mono ?_
  rw [← HR.out]
  rintro e w5 ⟨rfl,h1⟩
  clear x0 x1 x2 x3 x4 x5 x6 HN HU HE1 HE2 HE3 HR
  replace bc:=hide (bc.out.below h1)
  replace bh:=hide (bh.out.below h1)
  replace bd:=hide (bd.out.below h1)
  replace bt:=hide (bt.out.below h1)
  replace HT:=hide (HT.out.below h1)
  replace hb:=hide (bel_next hb.out h1)
  clear h1
  rcases HCS.out with ⟨rfl,rfl,rfl,rfl,rfl,rfl⟩ | ⟨rfl,rfl,rfl,rfl,rfl,rfl⟩ | ⟨hE,rfl,rfl,rfl,rfl⟩
  all_goals clear HCS
  ·obtain ⟨x0,x1,x2,x3⟩:=bc.out.cells4
   obtain ⟨y0,y1,y2,y3,y4,y5,y6⟩:=hcells7 bh.out
   obtain ⟨z0,z1,z2,z3⟩:=bd.out.cells4
   have yf:=bh.out.fr
   have zf:=bd.out.fr
   have yl:=bh.out.lt
   have zl:=bd.out.lt
   obtain ⟨q0,q1,q2,q3,q4,q5,q6⟩:=hcells7 bt.out
   go_wp2
   go_region
   all_goals go_wp2
   all_goals
    refine bodyPost_ret (v:=.tuple #[.agg #[.int .i64 v,.int .u32 f0,.int .u32 f1,.int .u32 f2,.int .u32 f3,.int .u32 f4,.int .u32 f5],cu A n c pf 0 af]) (by simp [results,Tryz.results73,go_sem,y0,y1,y2,y3,y4,y5,y6,z0,z1,z2,z3]) rfl ⟨rfl,?_⟩
    repeat (first | with_reducible exact hb.out | with_reducible refine bl_set ?_ l1 _ | with_reducible refine bl_set ?_ l2 _ | with_reducible refine bl_drew ?_)
  ·obtain ⟨x0,x1,x2,x3⟩:=bc.out.cells4
   go_wp2_with fail
   refine (cu_.Fail_ok A n c pf Q6 6 af _ (by omega)).mono ?_
   rintro e w6 ⟨rfl,h1⟩
   clear x0 x1 x2 x3
   replace bc:=hide (bc.out.below h1)
   replace bh:=hide (bh.out.below h1)
   replace bd:=hide (bd.out.below h1)
   replace bt:=hide (bt.out.below h1)
   replace HT:=hide (HT.out.below h1)
   replace hb:=hide (bel_next hb.out h1)
   clear h1
   obtain ⟨x0,x1,x2,x3⟩:=bc.out.cells4
   have xf:=bc.out.fr
   go_upto_region 9 with fail
   clear x0 x1 x2 x3 xf
   replace bc:=hide (bc.out.store4 (a:=.slice A n c) (b:=.int .i64 pf) (c:=.int .i64 6) (d:=.int .i64 af))
   replace bh:=hide (bh.out.away4 (a:=.slice A n c) (b:=.int .i64 pf) (c:=.int .i64 6) (d:=.int .i64 af) n01)
   replace bd:=hide (bd.out.away4 (a:=.slice A n c) (b:=.int .i64 pf) (c:=.int .i64 6) (d:=.int .i64 af) n02)
   replace bt:=hide (bt.out.away4 (a:=.slice A n c) (b:=.int .i64 pf) (c:=.int .i64 6) (d:=.int .i64 af) n03)
   replace hb:=hide (bl_set4 (a:=.slice A n c) (b:=.int .i64 pf) (c:=.int .i64 6) (d:=.int .i64 af) hb.out l0)
   generalize ((((w6.setCell ⟨g0,0,none⟩ (.slice A n c)).setCell ⟨g0,1,none⟩ (.int .i64 pf)).setCell ⟨g0,2,none⟩ (.int .i64 6)).setCell ⟨g0,3,none⟩ (.int .i64 af))=u5 at *
   replace HT:=hide (HT0.out.below hb.out)
   obtain ⟨x0,x1,x2,x3⟩:=bc.out.cells4
   obtain ⟨y0,y1,y2,y3,y4,y5,y6⟩:=hcells7 bh.out
   obtain ⟨z0,z1,z2,z3⟩:=bd.out.cells4
   have yf:=bh.out.fr
   have zf:=bd.out.fr
   have yl:=bh.out.lt
   have zl:=bd.out.lt
   go_wp2
   go_region
   all_goals go_wp2
   all_goals
    refine bodyPost_ret (v:=.tuple #[Hd0.val,cu A n c pf 6 af]) (by simp [results,Tryz.results73,go_sem,y0,y1,y2,y3,y4,y5,y6,z0,z1,z2,z3,Hd0]) rfl ⟨rfl,?_⟩
    repeat (first | with_reducible exact hb.out | with_reducible refine bl_set ?_ l1 _ | with_reducible refine bl_set ?_ l2 _ | with_reducible refine bl_drew ?_)
  ·cases r
   ·obtain ⟨x0,x1,x2,x3⟩:=bc.out.cells4
    go_wp2_with fail
    refine (cu_.Fail_err A n c pf ef af 6 p _ hE).mono ?_
    rintro e w6 ⟨rfl,h1⟩
    clear x0 x1 x2 x3
    replace bc:=hide (bc.out.below h1)
    replace bh:=hide (bh.out.below h1)
    replace bd:=hide (bd.out.below h1)
    replace bt:=hide (bt.out.below h1)
    replace HT:=hide (HT.out.below h1)
    replace hb:=hide (bel_next hb.out h1)
    clear h1
    obtain ⟨x0,x1,x2,x3⟩:=bc.out.cells4
    have xf:=bc.out.fr
    go_upto_region 9 with fail
    clear x0 x1 x2 x3 xf
    replace bc:=hide (bc.out.store4 (a:=.slice A n c) (b:=.int .i64 pf) (c:=.int .i64 ef) (d:=.int .i64 af))
    replace bh:=hide (bh.out.away4 (a:=.slice A n c) (b:=.int .i64 pf) (c:=.int .i64 ef) (d:=.int .i64 af) n01)
    replace bd:=hide (bd.out.away4 (a:=.slice A n c) (b:=.int .i64 pf) (c:=.int .i64 ef) (d:=.int .i64 af) n02)
    replace bt:=hide (bt.out.away4 (a:=.slice A n c) (b:=.int .i64 pf) (c:=.int .i64 ef) (d:=.int .i64 af) n03)
    replace hb:=hide (bl_set4 (a:=.slice A n c) (b:=.int .i64 pf) (c:=.int .i64 ef) (d:=.int .i64 af) hb.out l0)
    generalize ((((w6.setCell ⟨g0,0,none⟩ (.slice A n c)).setCell ⟨g0,1,none⟩ (.int .i64 pf)).setCell ⟨g0,2,none⟩ (.int .i64 ef)).setCell ⟨g0,3,none⟩ (.int .i64 af))=u5 at *
    replace HT:=hide (HT0.out.below hb.out)
    obtain ⟨x0,x1,x2,x3⟩:=bc.out.cells4
    obtain ⟨y0,y1,y2,y3,y4,y5,y6⟩:=hcells7 bh.out
    obtain ⟨z0,z1,z2,z3⟩:=bd.out.cells4
    have yf:=bh.out.fr
    have zf:=bd.out.fr
    have yl:=bh.out.lt
    have zl:=bd.out.lt
    go_wp2
    go_region
    all_goals go_wp2
    all_goals
     refine bodyPost_ret (v:=.tuple #[Hd0.val,cu A n c pf ef af]) (by simp [results,Tryz.results73,go_sem,y0,y1,y2,y3,y4,y5,y6,z0,z1,z2,z3,Hd0]) rfl ⟨rfl,?_⟩
     repeat (first | with_reducible exact hb.out | with_reducible refine bl_set ?_ l1 _ | with_reducible refine bl_set ?_ l2 _ | with_reducible refine bl_drew ?_)
   ·obtain ⟨x0,x1,x2,x3⟩:=bc.out.cells4
    obtain ⟨y0,y1,y2,y3,y4,y5,y6⟩:=hcells7 bh.out
    obtain ⟨z0,z1,z2,z3⟩:=bd.out.cells4
    have yf:=bh.out.fr
    have zf:=bd.out.fr
    have yl:=bh.out.lt
    have zl:=bd.out.lt
    go_wp2
    go_region
    all_goals go_wp2
    all_goals
     refine bodyPost_ret (v:=.tuple #[Hd0.val,cu A n c pf ef af]) (by simp [results,Tryz.results73,go_sem,y0,y1,y2,y3,y4,y5,y6,z0,z1,z2,z3,Hd0]) rfl ⟨rfl,?_⟩
     repeat (first | with_reducible exact hb.out | with_reducible refine bl_set ?_ l1 _ | with_reducible refine bl_set ?_ l2 _ | with_reducible refine bl_drew ?_)
end hd_
theorem diff_is:∀ (a b:List Int),a.length=b.length→a≠b→diffAt a b<b.length∧(∀ j,j<diffAt a b→a[j]?.getD 0=b[j]?.getD 0)∧a[diffAt a b]?.getD 0≠b[diffAt a b]?.getD 0:=by
 intro a
 induction a with
 | nil=>intro b hl hne;cases b with
   | nil=>exact absurd rfl hne
   | cons y b=>simp at hl
 | cons x a ih=>intro b hl hne;cases b with
   | nil=>simp at hl
   | cons y b =>
     by_cases e:x=y
     ·subst e
      have:=ih b (by simpa using hl) (fun h=>hne (by rw [h]))
      obtain ⟨h1,h2,h3⟩:=this
      have hd:diffAt (x :: a) (x :: b)=diffAt a b+1:=by unfold diffAt;simp
      rw [hd]
      refine ⟨by simpa using h1,fun j hj=>?_,by simpa using h3⟩
      cases j with
      | zero=>rfl
      | succ j=>simpa using h2 j (by omega)
     ·have hd:diffAt (x :: a) (y :: b)=0:=by unfold diffAt;simp [e]
      rw [hd]
      exact ⟨by simp,fun j hj=>absurd hj (by omega),by simpa using e⟩
namespace hd_
theorem ver_tab {x:Int} (h:¬ verOf x=0):∃ m:Nat,m<4∧vtab[m]?=some x∧verOf x=(m:Int)+1:=by
 unfold verOf at h ⊢
 by_cases h0:x=0
 ·subst h0;exact ⟨0,by omega,rfl,rfl⟩
 by_cases h1:x=50
 ·subst h1;exact ⟨1,by omega,rfl,rfl⟩
 by_cases h2:x=51
 ·subst h2;exact ⟨2,by omega,rfl,rfl⟩
 by_cases h3:x=52
 ·subst h3;exact ⟨3,by omega,rfl,rfl⟩
 ·simp [h0,h1,h2,h3] at h
theorem ver_tabn {x:Int} (h:verOf x=0):(x == 0)=false∧(x == 50)=false∧(x == 51)=false∧(x == 52)=false:=by
 unfold verOf at h
 by_cases h0:x=0
 ·subst h0;simp at h
 by_cases h1:x=50
 ·subst h1;simp at h
 by_cases h2:x=51
 ·subst h2;simp at h
 by_cases h3:x=52
 ·subst h3;simp at h
 ·simp [h0,h1,h2,h3]
section
variable {A:Option Addr} {n c:Nat} {xs:List Int} {w:World}
theorem ver_err {p x a:Int} (hx:x≠0) (hr:Rd w A n (xs.map (Value.int .u8))) (w1:World) (hT:Th w1) (hb:Below w.heap.size w w1) :
 Calls Tryz.prog 118 #[cu A n c p x a] w1 fun e w'=>e=.returned (.tuple #[.int .i64 1,cu A n c p x a])∧Below w1.heap.size w1 w' :=
 ver_yes A n c p x a 0 p x a 0 w1 hT (fun w2 h2=>cu_.Uint_err A n c xs p x a 1 w2 hx (hr.below (bel_next hb h2))) (by omega) rfl
theorem Decode_e1 {p:Nat} {p1 e1 a1:Int} (hr:Rd w A n (xs.map (Value.int .u8))) (hT:Th w) (he:e1≠0)
 (E1:∀ w1,Below w.heap.size w w1→∀ B d,Rd w1 B 4 (magicL.map (Value.int .u8))→Calls Tryz.prog 78 #[cu A n c p 0 0,.slice B 4 d,.int .i64 3] w1 fun e w'=>e=.returned (cu A n c p1 e1 a1)∧Below w1.heap.size w1 w') :
 Calls Tryz.prog 73 #[cu A n c p 0 0] w fun z w'=>z=.returned (.tuple #[Hd0.val,cu A n c p1 e1 a1])∧Below w.heap.size w w' :=
 Decode_gen A n c p p1 e1 a1 1 p1 e1 a1 (fun _=>0) (fun _=>p1) (fun _=>e1) (fun _=>a1) 0 0 0 0 0 0 p1 e1 a1 p1 e1 a1 Hd0 w hT E1
  (fun w1 h1=>ver_err he hr w1 (hT.below h1) h1)
  (fun w1 h1 B d _=>cu_.Expect_err A n c p1 e1 a1 5 B 15 d w1 he)
  (fun i hi w1 h1=>cu_.Uint_err A n c xs p1 e1 a1 4 w1 he (hr.below h1))
  (fun i hi=>⟨by omega,by omega⟩) _ rfl ⟨rfl,rfl,rfl,rfl,rfl,rfl,rfl,rfl,rfl⟩ (.inr (.inr ⟨he,rfl,rfl,rfl,rfl⟩))
theorem Decode_e2 {p:Nat} {p1 v p2 e2 a2:Int} (hr:Rd w A n (xs.map (Value.int .u8))) (hT:Th w) (he:e2≠0)
 (E1:∀ w1,Below w.heap.size w w1→∀ B d,Rd w1 B 4 (magicL.map (Value.int .u8))→Calls Tryz.prog 78 #[cu A n c p 0 0,.slice B 4 d,.int .i64 3] w1 fun e w'=>e=.returned (cu A n c p1 0 0)∧Below w1.heap.size w1 w')
 (E2:∀ w1,Below w.heap.size w w1→Calls Tryz.prog 118 #[cu A n c p1 0 0] w1 fun e w'=>e=.returned (.tuple #[.int .i64 v,cu A n c p2 e2 a2])∧Below w1.heap.size w1 w') :
 Calls Tryz.prog 73 #[cu A n c p 0 0] w fun z w'=>z=.returned (.tuple #[Hd0.val,cu A n c p2 e2 a2])∧Below w.heap.size w w' :=
 Decode_gen A n c p p1 0 0 v p2 e2 a2 (fun _=>0) (fun _=>p2) (fun _=>e2) (fun _=>a2) 0 0 0 0 0 0 p2 e2 a2 p2 e2 a2 Hd0 w hT E1 E2
  (fun w1 h1 B d _=>cu_.Expect_err A n c p2 e2 a2 5 B 15 d w1 he)
  (fun i hi w1 h1=>cu_.Uint_err A n c xs p2 e2 a2 4 w1 he (hr.below h1))
  (fun i hi=>⟨by omega,by omega⟩) _ rfl ⟨rfl,rfl,rfl,rfl,rfl,rfl,rfl,rfl,rfl⟩ (.inr (.inr ⟨he,rfl,rfl,rfl,rfl⟩))
theorem Decode_e3 {p:Nat} {p1 v p2 p3 e3 a3:Int} (hr:Rd w A n (xs.map (Value.int .u8))) (hT:Th w) (he:e3≠0)
 (E1:∀ w1,Below w.heap.size w w1→∀ B d,Rd w1 B 4 (magicL.map (Value.int .u8))→Calls Tryz.prog 78 #[cu A n c p 0 0,.slice B 4 d,.int .i64 3] w1 fun e w'=>e=.returned (cu A n c p1 0 0)∧Below w1.heap.size w1 w')
 (E2:∀ w1,Below w.heap.size w w1→Calls Tryz.prog 118 #[cu A n c p1 0 0] w1 fun e w'=>e=.returned (.tuple #[.int .i64 v,cu A n c p2 0 0])∧Below w1.heap.size w1 w')
 (E3:∀ w1,Below w.heap.size w w1→∀ B d,Rd w1 B 15 (zeroL.map (Value.int .u8))→Calls Tryz.prog 78 #[cu A n c p2 0 0,.slice B 15 d,.int .i64 5] w1 fun e w'=>e=.returned (cu A n c p3 e3 a3)∧Below w1.heap.size w1 w') :
 Calls Tryz.prog 73 #[cu A n c p 0 0] w fun z w'=>z=.returned (.tuple #[Hd0.val,cu A n c p3 e3 a3])∧Below w.heap.size w w' :=
 Decode_gen A n c p p1 0 0 v p2 0 0 (fun _=>0) (fun _=>p3) (fun _=>e3) (fun _=>a3) 0 0 0 0 0 0 p3 e3 a3 p3 e3 a3 Hd0 w hT E1 E2 E3
  (fun i hi w1 h1=>cu_.Uint_err A n c xs p3 e3 a3 4 w1 he (hr.below h1))
  (fun i hi=>⟨by omega,by omega⟩) _ rfl ⟨rfl,rfl,rfl,rfl,rfl,rfl,rfl,rfl,rfl⟩ (.inr (.inr ⟨he,rfl,rfl,rfl,rfl⟩))
end
theorem Decode (A:Option Addr) (n c p:Nat) (xs:List Int) (w:World) (hT:Th w) {h:Hd} {q e a:Int} (hr:Rd w A n (xs.map (Value.int .u8))) (hB:Bytes xs) (hA:A=none→n=0∧c=0) (hn:n≤c) (hc:c≤9223372036854775807) (hN:n≤1000000) (hp:p≤n) (hd:decH xs p=(h,q,e,a)) :
 Calls Tryz.prog 73 #[cu A n c p 0 0] w fun z w'=>z=.returned (.tuple #[h.val,cu A n c q e a])∧Below w.heap.size w w':=by
 have hl:xs.length=n:=by have:=hr.len;simpa using this
 unfold decH at hd
 rw [hl] at hd
 split at hd
 ·rename_i h4
  simp only [Prod.mk.injEq] at hd;obtain ⟨rfl,rfl,rfl,rfl⟩:=hd
  exact Decode_e1 hr hT (by omega) (fun w1 h1 B d _=>cu_.Expect_no A n c p 0 3 B 4 d w1 (by omega) (by omega) (by omega) (by omega))
 rename_i h4
 split at hd
 ·rename_i hm
  simp only [Prod.mk.injEq] at hd;obtain ⟨rfl,rfl,rfl,rfl⟩:=hd
  obtain ⟨d1,d2,d3⟩:=diff_is (fld xs p 4) magicL (fld_len xs p 4 (by omega)) hm
  exact Decode_e1 hr hT (by omega) (fun w1 h1 B d hm'=>cu_.Expect_differ A n c xs p 3 B 4 d magicL (diffAt (fld xs p 4) magicL) w1 hn hc (by omega) (hr.below h1) hm' d1 (by omega) d2 d3)
 rename_i hm
 have hm:=Decidable.not_not.1 hm
 have E1:=fun (w1:World) (h1:Below w.heap.size w w1) (B:Option Addr) (d:Nat) (hm':Rd w1 B 4 (magicL.map (Value.int .u8)))=>cu_.Expect_yes A n c xs p 3 B 4 d w1 hn hc (by omega) (hr.below h1) (by rw [hm];exact hm')
 split at hd
 ·rename_i h5
  simp only [Prod.mk.injEq] at hd;obtain ⟨rfl,rfl,rfl,rfl⟩:=hd
  exact Decode_e2 hr hT (by omega) E1 (fun w1 h1=>ver_yes A n c _ 0 0 0 _ 1 n 0 w1 (hT.below h1) (fun w2 h2=>cu_.Uint_no A n c xs _ 1 w2 (by omega) (by omega) (by omega) (hr.below (bel_next h1 h2))) (by omega) rfl)
 rename_i h5
 have hx:uval (fld xs (p+4) 1)=xs[p+4]?.getD 0:=fld_one xs _ (by omega)
 have U4:∀ w1 w2,Below w.heap.size w w1→Below w1.heap.size w1 w2→Calls Tryz.prog 158 #[cu A n c ((p+4:Nat):Int) 0 0,.int .i64 1] w2 fun e w'=>e=.returned (.tuple #[.int .u64 (xs[p+4]?.getD 0),cu A n c ((p+5:Nat):Int) 0 0])∧Below w2.heap.size w2 w':=by
  intro w1 w2 h1 h2
  have:=cu_.Uint_yes A n c xs ((p+4:Nat):Int) 1 w2 (by omega) (by omega) (by omega) (by omega) (hr.below (bel_next h1 h2)) hB
  rw [Int.toNat_natCast,show (1:Int).toNat=1 from rfl,hx,show ((p+4:Nat):Int)+1=((p+5:Nat):Int) by omega] at this
  exact this
 split at hd
 ·rename_i hv
  simp only [Prod.mk.injEq] at hd;obtain ⟨rfl,rfl,rfl,rfl⟩:=hd
  obtain ⟨v0,v1,v2,v3⟩:=ver_tabn hv
  exact Decode_e2 hr hT (by omega) E1 (fun w1 h1=>ver_no A n c _ 0 _ _ _ _ w1 (hT.below h1) (fun w2 h2=>U4 w1 w2 h1 h2) v0 v1 v2 v3)
 rename_i hv
 obtain ⟨m,hm4,hmt,hmv⟩:=ver_tab hv
 have E2:=fun (w1:World) (h1:Below w.heap.size w w1)=>ver_yes A n c _ 0 0 _ _ 0 0 m w1 (hT.below h1) (fun w2 h2=>U4 w1 w2 h1 h2) hm4 hmt
 split at hd
 ·rename_i h20
  simp only [Prod.mk.injEq] at hd;obtain ⟨rfl,rfl,rfl,rfl⟩:=hd
  exact Decode_e3 hr hT (by omega) E1 E2 (fun w1 h1 B d _=>cu_.Expect_no A n c _ 0 5 B 15 d w1 (by omega) (by omega) (by omega) (by omega))
 rename_i h20
 split at hd
 ·rename_i hz
  simp only [Prod.mk.injEq] at hd;obtain ⟨rfl,rfl,rfl,rfl⟩:=hd
  obtain ⟨d1,d2,d3⟩:=diff_is (fld xs (p+5) 15) zeroL (fld_len xs (p+5) 15 (by omega)) hz
  exact Decode_e3 hr hT (by omega) E1 E2 (fun w1 h1 B d hm'=>cu_.Expect_differ A n c xs (p+5) 5 B 15 d zeroL (diffAt (fld xs (p+5) 15) zeroL) w1 hn hc (by omega) (hr.below h1) hm' d1 (by omega) d2 d3)
 rename_i hz
 have hz:=Decidable.not_not.1 hz
 have E3:=fun (w1:World) (h1:Below w.heap.size w w1) (B:Option Addr) (d:Nat) (hm':Rd w1 B 15 (zeroL.map (Value.int .u8)))=>cu_.Expect_yes A n c xs (p+5) 5 B 15 d w1 hn hc (by omega) (hr.below h1) (by rw [hz];exact hm')
 have hu:∀ o,o+4≤n→U32 (uval (fld xs o 4)):=fun o ho=>uval4_bd (fld_bytes hB o 4) (fld_len xs o 4 (by omega))
 have UY:∀ (o:Nat) (w1:World),o+4≤n→Below w.heap.size w w1→Calls Tryz.prog 158 #[cu A n c (o:Int) 0 0,.int .i64 4] w1 fun e w'=>e=.returned (.tuple #[.int .u64 (uval (fld xs o 4)),cu A n c ((o+4:Nat):Int) 0 0])∧Below w1.heap.size w1 w':=by
  intro o w1 ho h1
  have:=cu_.Uint_yes A n c xs (o:Int) 4 w1 (by omega) (by omega) (by omega) (by omega) (hr.below h1) hB
  rw [Int.toNat_natCast,show (4:Int).toNat=4 from rfl,show (o:Int)+4=((o+4:Nat):Int) by omega] at this
  exact this
 split at hd
 ·rename_i h44
  simp only [Prod.mk.injEq] at hd;obtain ⟨rfl,rfl,rfl,rfl⟩:=hd
  obtain ⟨k,hk⟩:∃ k,k=(n - p - 20) / 4:=⟨_,rfl⟩
  rw [show (n - p - 20) / 4 * 4=4 * k by omega]
  refine Decode_gen A n c p _ 0 0 _ _ 0 0 (fun i=>if i<k then uval (fld xs (p+20+4 * i) 4) else 0) (fun i=>((p+20+4 * min i k:Nat):Int)) (fun i=>if i≤k then 0 else 1) (fun i=>if i≤k then 0 else (n:Int)) _ _ _ _ _ _ _ _ _ _ _ _ Hd0 w hT E1 E2 E3 ?_ ?_ _ rfl ⟨rfl,rfl,rfl,rfl,rfl,rfl,rfl,rfl,rfl⟩ (.inr (.inr ⟨?_,rfl,?_,?_,?_⟩))
  ·intro i hi w1 h1
   by_cases hik:i<k
   ·have:=UY (p+20+4 * i) w1 (by omega) h1
    rw [if_pos hik,if_pos (by omega),if_pos (by omega),if_pos (by omega),if_pos (by omega),show min i k=i by omega,show min (i+1) k=i+1 by omega]
    exact this
   ·rw [if_neg hik,show min i k=k by omega,show min (i+1) k=k by omega]
    by_cases hik2:i≤k
    ·rw [if_pos hik2,if_pos hik2,if_neg (by omega),if_neg (by omega)]
     exact cu_.Uint_no A n c xs _ 4 w1 (by omega) (by omega) (by omega) (hr.below h1)
    ·rw [if_neg hik2,if_neg hik2,if_neg (by omega),if_neg (by omega)]
     exact cu_.Uint_err A n c xs _ 1 n 4 w1 (by omega) (hr.below h1)
  ·intro i hi
   split
   ·exact hu _ (by omega)
   ·exact ⟨by omega,by omega⟩
  ·rw [if_neg (by omega)];omega
  ·show ((p+20+4 * k:Nat):Int)=((p+20+4 * min 6 k:Nat):Int)
   rw [show min 6 k=k by omega]
  ·rw [if_neg (by omega)]
  ·rw [if_neg (by omega)]
 rename_i h44
 have G:∀ (H:Hd) (pf ef af:Int) (hcase:((0:Int)=0∧(decHd xs p).con=true∧H=decHd xs p∧pf=((p+44:Nat):Int)∧ef=0∧af=0)∨((0:Int)=0∧(decHd xs p).con=false∧H=Hd0∧pf=((p+44:Nat):Int)∧ef=6∧af=(p:Int))∨((0:Int)≠0∧H=Hd0∧pf=((p+44:Nat):Int)∧ef=0∧af=0)),
  Calls Tryz.prog 73 #[cu A n c p 0 0] w fun z w'=>z=.returned (.tuple #[H.val,cu A n c pf ef af])∧Below w.heap.size w w':=by
  intro H pf ef af hcase
  have hmv':decHd xs p=⟨(m:Int)+1,uval (fld xs (p+20) 4),uval (fld xs (p+24) 4),uval (fld xs (p+28) 4),uval (fld xs (p+32) 4),uval (fld xs (p+36) 4),uval (fld xs (p+40) 4)⟩:=by unfold decHd;rw [hmv]
  rw [hmv'] at hcase
  exact Decode_gen A n c p _ 0 0 _ _ 0 0 (fun i=>uval (fld xs (p+20+4 * i) 4)) (fun i=>((p+20+4 * i:Nat):Int)) (fun i=>0) (fun i=>0) _ _ _ _ _ _ _ 0 0 pf ef af H w hT E1 E2 E3 (fun i hi w1 h1=>UY (p+20+4 * i) w1 (by omega) h1) (fun i hi=>hu _ (by omega)) _ rfl ⟨rfl,rfl,rfl,rfl,rfl,rfl,rfl,rfl,rfl⟩ hcase
 split at hd
 ·rename_i hcn
  simp only [Prod.mk.injEq] at hd;obtain ⟨rfl,rfl,rfl,rfl⟩:=hd
  exact G _ _ _ _ (.inl ⟨rfl,hcn,rfl,rfl,rfl,rfl⟩)
 ·rename_i hcn
  simp only [Prod.mk.injEq] at hd;obtain ⟨rfl,rfl,rfl,rfl⟩:=hd
  exact G _ _ _ _ (.inr (.inl ⟨rfl,by simpa using hcn,rfl,rfl,rfl,rfl⟩))
end hd_
def flA (v:Int) (S S':BkS) (f:ByteArray):Array Value:=#[.int .i64 v,.slice S.ti.A S.ti.n S.ti.c,.slice S.ix.A S.ix.n S.ix.c,.slice S.ty.A S.ty.n S.ty.c,.slice S.ch.A S.ch.n S.ch.c,.slice S.lp.A S.lp.n S.lp.c,.slice S.sd.A S.sd.n S.sd.c,.slice S.ut.A S.ut.n S.ut.c,.slice S'.ti.A S'.ti.n S'.ti.c,.slice S'.ix.A S'.ix.n S'.ix.c,.slice S'.ty.A S'.ty.n S'.ty.c,.slice S'.ch.A S'.ch.n S'.ch.c,.slice S'.lp.A S'.lp.n S'.lp.c,.slice S'.sd.A S'.sd.n S'.sd.c,.slice S'.ut.A S'.ut.n S'.ut.c,.string f]
theorem gr_file (v:Int) (S S':BkS) (f:ByteArray):Gr Tryz.prog 30 16 (flA v S S' f) :=
 ⟨by rw [show (flA v S S' f).size=16 from rfl];kernel_rfl,rfl,by simp [flA,Value.oneCell']⟩
theorem byt_nil (f:ByteArray):f.toList.isEmpty=decide (byt f=[]):=by
 rw [ByteArray.toList_eq]
 unfold byt
 cases f with
 | mk d=>cases d with | mk l=>cases l <;> simp
namespace r14_
end r14_
namespace r15_
end r15_
theorem Rk.lp {w:World} {A:Option Addr} {n:Nat} {ts:List LP} (h:Rk 2 w A n (lcs ts)) {i:Nat} (hi:i<n):∃ ad t,A=some ad∧ts[i]?=some t∧w.cell? (ad.add (i * 2))=some (.int .i64 t.1)∧w.cell? ⟨(ad.add (i * 2)).block,(ad.add (i * 2)).off+1,none⟩=some (.int .i32 t.2):=by
 have hl:ts.length=n:=by have:=h.len;rw [lcs_len] at this;omega
 obtain ⟨ad,e,hc⟩:=h.2 (by omega)
 have ht:ts[i]?=some (ts[i]'(by omega)):=List.getElem?_eq_getElem (by omega)
 have g:=lcs_get ht
 have h1:=hc _ _ g.2
 rw [← addr_add] at h1
 exact ⟨ad,_,e,ht,hc _ _ g.1,h1⟩
namespace r17_
end r17_
structure BkS.small (S:BkS):Prop where
 ti:S.ti.n≤100000
 ix:S.ix.n≤100000
 ty:S.ty.n≤100000
 ch:S.ch.n≤100000
 lp:S.lp.n≤100000
 sd:S.sd.n≤100000
 ut:S.ut.n≤100000
namespace r20_
end r20_
end Go.Proofs.YtpapfpcehlhgeaaGreatDoor
