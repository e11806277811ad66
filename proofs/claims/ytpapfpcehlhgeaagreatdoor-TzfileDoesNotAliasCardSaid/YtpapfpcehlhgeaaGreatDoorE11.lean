/-
  Texts of mine in one file: Tx, RdRef2, RdRW, DtRef, Ref11, Ref11b, TeM2, Ref11c, Ref11d, Civil, Tab, Rd, Dt, TeMg. Their conditions stand in the theorems.
-/
import Derived.Test.YtpapfpcehlhgeaaGreatDoorE02
import Derived.Deep.RegionHeld3
import Derived.Deep.DeepCutAuto
import Derived.Test.YtpapfpcehlhgeaaGreatDoorE07
import Derived.Lib.LaidTab
import Derived.MakeChecks
import Derived.LaidHandle
namespace Go.Proofs.YtpapfpcehlhgeaaGreatDoor
set_option linter.unusedVariables false
set_option linter.unusedSimpArgs false
set_option maxRecDepth 100000
set_option maxHeartbeats 16000000
open Go.ChangeShapes Go.WideShapes Go.ChangeAt Go.RowKit
namespace tf_
theorem beyondDay (x:Int) (w:World):Calls Tryz.prog 187 #[.int .i64 x] w fun e w'=>e=.returned (.bool (decide (x<0∨86400<x)))∧w=w':=by
 rcases (show x<0∨(0≤x∧86400<x)∨(0≤x∧x≤86400) by omega) with a | ⟨a,b⟩ | ⟨a,b⟩
 all_goals
  go_enter Tryz.func187,Tryz.ntmps187
  go_wp2
  go_ret
  exact ⟨retb (by rw [Bool.eq_iff_iff];simp;try omega),rfl⟩
theorem Extended (std:ByteArray) (so:Int) (hd:Bool) (dst:ByteArray) (dof:Int) (st en:RD) (w:World) (hp:prOk (byt std,so,hd,byt dst,dof,st,en)) :
 Calls Tryz.prog 136 #[vrule std so hd dst dof st en] w fun e w'=>e=.returned (.bool (hd && (lateD st || lateD en)))∧Below w.heap.size w w':=by
 have hv:(hd && (lateD st || lateD en))=(lateD st || lateD en):=by
  obtain ⟨_,_,hr⟩:=hp
  simp only at hr
  cases hd
  ·simp only [Bool.false_eq_true,if_false] at hr
   obtain ⟨_,_,rfl,rfl⟩:=hr
   rfl
  ·rfl
 rw [hv]
 clear hv hp
 have LS:=hide (fun w=>beyondDay st.2.2.2.2.2 w)
 have LE:=hide (fun w=>beyondDay en.2.2.2.2.2 w)
 unfold vrule
 obtain ⟨a,ha⟩:∃ a,lateD st=a:=⟨_,rfl⟩
 obtain ⟨b,hbb⟩:∃ b,lateD en=b:=⟨_,rfl⟩
 rw [ha,hbb]
 unfold lateD at ha hbb
 rw [ha] at LS
 rw [hbb] at LE
 clear ha hbb
 have R:=hide (Ro.new w #[.string std,.int .i64 so,.bool hd,.string dst,.int .i64 dof,.int .i64 st.1,.int .i64 st.2.1,.int .i64 st.2.2.1,.int .i64 st.2.2.2.1,.int .i64 st.2.2.2.2.1,.int .i64 st.2.2.2.2.2,.int .i64 en.1,.int .i64 en.2.1,.int .i64 en.2.2.1,.int .i64 en.2.2.2.1,.int .i64 en.2.2.2.2.1,.int .i64 en.2.2.2.2.2] 83)
 have hB:=hide (bl_new w (.cells #[.string std,.int .i64 so,.bool hd,.string dst,.int .i64 dof,.int .i64 st.1,.int .i64 st.2.1,.int .i64 st.2.2.1,.int .i64 st.2.2.2.1,.int .i64 st.2.2.2.2.1,.int .i64 st.2.2.2.2.2,.int .i64 en.1,.int .i64 en.2.1,.int .i64 en.2.2.1,.int .i64 en.2.2.2.1,.int .i64 en.2.2.2.2.1,.int .i64 en.2.2.2.2.2] 83))
 cases a
 ·go_enter Tryz.func136,Tryz.ntmps136
  go_upto_region 1 with fail
  generalize w.alloc (.cells #[.string std,.int .i64 so,.bool hd,.string dst,.int .i64 dof,.int .i64 st.1,.int .i64 st.2.1,.int .i64 st.2.2.1,.int .i64 st.2.2.2.1,.int .i64 st.2.2.2.2.1,.int .i64 st.2.2.2.2.2,.int .i64 en.1,.int .i64 en.2.1,.int .i64 en.2.2.1,.int .i64 en.2.2.2.1,.int .i64 en.2.2.2.2.1,.int .i64 en.2.2.2.2.2] 83)=v0 at *
  have x10:=(ro_cf R.out 10 _ rfl).1
  have x16:=(ro_cf R.out 16 _ rfl).1
  go_wp2_with fail
  refine (LS.out _).mono ?_
  rintro e w1 ⟨rfl,rfl⟩
  go_wp2_with fail
  refine (LE.out _).mono ?_
  rintro e w1 ⟨rfl,rfl⟩
  go_wp2
  go_ret
  exact ⟨rfl,hB.out⟩
 ·go_enter Tryz.func136,Tryz.ntmps136
  go_upto_region 1 with fail
  generalize w.alloc (.cells #[.string std,.int .i64 so,.bool hd,.string dst,.int .i64 dof,.int .i64 st.1,.int .i64 st.2.1,.int .i64 st.2.2.1,.int .i64 st.2.2.2.1,.int .i64 st.2.2.2.2.1,.int .i64 st.2.2.2.2.2,.int .i64 en.1,.int .i64 en.2.1,.int .i64 en.2.2.1,.int .i64 en.2.2.2.1,.int .i64 en.2.2.2.2.1,.int .i64 en.2.2.2.2.2] 83)=v0 at *
  have x10:=(ro_cf R.out 10 _ rfl).1
  have x16:=(ro_cf R.out 16 _ rfl).1
  go_wp2_with fail
  refine (LS.out _).mono ?_
  rintro e w1 ⟨rfl,rfl⟩
  go_wp2
  go_ret
  exact ⟨rfl,hB.out⟩
end tf_
namespace r6w_
theorem ystart_bd {y:Int} (h0:-600000000001≤y) (h1:y≤600000000001):-240000000000000≤ystart y∧ystart y≤240000000000000:=by unfold ystart;omega
end r6w_
theorem rday_bdw {K D M Wk Wd T y:Int} (hv:RdOk K D M Wk Wd T) (h0:-600000000001≤y) (h1:y≤600000000001):-270000000000000≤rday K D M Wk Wd y∧rday K D M Wk Wd y≤270000000000000:=by
 have hs:=r6w_.ystart_bd h0 h1
 obtain ⟨_,_,⟨rfl,h2,h3,_⟩ | ⟨rfl,h2,h3,_⟩ | ⟨rfl,_,h2,h3,h4,h5,h6,h7⟩⟩:=hv
 ·unfold rday rdj
  simp
  split <;> omega
 ·unfold rday
  simp
  omega
 ·have:=rdm_bd y M Wk Wd h6 h7 h4 h5
  have hc:=cum_bd y (M - 1).toNat
  have hm:=mdays_bd y M
  have hd:days y M 1=ystart y+(cum y (M - 1).toNat+1 - 1):=rfl
  unfold rday
  simp
  omega
namespace r6w_
end r6w_
def vdt (Y M D h m s W:Int):Value:=.agg #[.int .i64 Y,.int .i64 M,.int .i64 D,.int .i64 h,.int .i64 m,.int .i64 s,.int .i64 W]
def vof (t Y M D:Int):Value:=vdt Y M D (t % 86400 / 3600) (t % 86400 % 3600 / 60) (t % 86400 % 60) ((t / 86400+4) % 7)
theorem cells7 {w:World} {g:Nat} {a b c d e f k:Value} (h:Bx w g [a,b,c,d,e,f,k]):w.cell? ⟨g,0,none⟩=some a∧w.cell? ⟨g,1,none⟩=some b∧w.cell? ⟨g,2,none⟩=some c∧w.cell? ⟨g,3,none⟩=some d∧w.cell? ⟨g,4,none⟩=some e∧w.cell? ⟨g,5,none⟩=some f∧w.cell? ⟨g,6,none⟩=some k :=
 ⟨h.2.1 0 _ rfl,h.2.1 1 _ rfl,h.2.1 2 _ rfl,h.2.1 3 _ rfl,h.2.1 4 _ rfl,h.2.1 5 _ rfl,h.2.1 6 _ rfl⟩
namespace r5_
end r5_
def cmpI (a b c d:Int):Int:=if a<c∨(a=c∧b<d) then -1 else if a=c∧b=d then 0 else 1
namespace r11_
end r11_
def cin (t:Int):Array Value:=#[.int .i64 (t / 86400),.int .i64 (t % 86400)]
def vin (t:Int):Value:=.agg (cin t)
theorem rcS {w:World} {g:Nat} {std:ByteArray} {so:Int} {hd:Bool} {dst:ByteArray} {dof:Int} {st en:RD} (h:Ro w g (crule std so hd dst dof st en) 83) :
 w.cell? ⟨g,1,none⟩=some (.int .i64 so)∧w.cell? ⟨g,5,none⟩=some (.int .i64 st.1)∧w.cell? ⟨g,6,none⟩=some (.int .i64 st.2.1)∧w.cell? ⟨g,7,none⟩=some (.int .i64 st.2.2.1)∧w.cell? ⟨g,8,none⟩=some (.int .i64 st.2.2.2.1)∧w.cell? ⟨g,9,none⟩=some (.int .i64 st.2.2.2.2.1)∧w.cell? ⟨g,10,none⟩=some (.int .i64 st.2.2.2.2.2) :=
 ⟨(ro_cf h 1 _ rfl).1,(ro_cf h 5 _ rfl).1,(ro_cf h 6 _ rfl).1,(ro_cf h 7 _ rfl).1,(ro_cf h 8 _ rfl).1,(ro_cf h 9 _ rfl).1,(ro_cf h 10 _ rfl).1⟩
theorem rcE {w:World} {g:Nat} {std:ByteArray} {so:Int} {hd:Bool} {dst:ByteArray} {dof:Int} {st en:RD} (h:Ro w g (crule std so hd dst dof st en) 83) :
 w.cell? ⟨g,4,none⟩=some (.int .i64 dof)∧w.cell? ⟨g,11,none⟩=some (.int .i64 en.1)∧w.cell? ⟨g,12,none⟩=some (.int .i64 en.2.1)∧w.cell? ⟨g,13,none⟩=some (.int .i64 en.2.2.1)∧w.cell? ⟨g,14,none⟩=some (.int .i64 en.2.2.2.1)∧w.cell? ⟨g,15,none⟩=some (.int .i64 en.2.2.2.2.1)∧w.cell? ⟨g,16,none⟩=some (.int .i64 en.2.2.2.2.2) :=
 ⟨(ro_cf h 4 _ rfl).1,(ro_cf h 11 _ rfl).1,(ro_cf h 12 _ rfl).1,(ro_cf h 13 _ rfl).1,(ro_cf h 14 _ rfl).1,(ro_cf h 15 _ rfl).1,(ro_cf h 16 _ rfl).1⟩
theorem ro_set2 {w:World} {g:Nat} {a b a' b':Value} {T:TypeId} (h:Ro w g #[a',b'] T):Ro ((w.setCell ⟨g,0,none⟩ a).setCell ⟨g,1,none⟩ b) g #[a,b] T:=by
 have:=ro_set (ro_set h 0 a) 1 b
 simpa using this
theorem ro_away2 {w:World} {g g':Nat} {vs:Array Value} {a b:Value} {T:TypeId} (h:Ro w g vs T) (hne:g'≠g):Ro ((w.setCell ⟨g',0,none⟩ a).setCell ⟨g',1,none⟩ b) g vs T:=ro_set_ne (ro_set_ne h hne 0 a) hne 1 b
theorem bl_set2 {w0 w:World} {a b:Value} (h:Below w0.heap.size w0 w) {g:Nat} (hg:w0.heap.size≤g):Below w0.heap.size w0 ((w.setCell ⟨g,0,none⟩ a).setCell ⟨g,1,none⟩ b):=bl_set (bl_set h hg _) hg _
namespace r11_
end r11_
def Lst (A B:Int→Prop) (t:Int) (fd on:Bool) (L:Int):Prop :=
 (fd=false∧on=false∧∀ c,A c∨B c→t<c)∨(fd=true∧L≤t∧(∀ c,A c∨B c→c≤t→c≤L)∧(A L∨B L)∧(on=true ↔ A L))
section
variable {A B:Int→Prop} {t L b:Int} {fd on:Bool}
end
def chs (d:RD) (o lo y c:Int):Prop:=∃ z,lo≤z∧z<y∧c=chI d o z
theorem Lst.on {st en:RD} (hs:rdOk st) (he:rdOk en) {so dof t Y L:Int} {fd on:Bool} (so0:-89999≤so∧so≤89999) (do0:-89999≤dof∧dof≤89999) (t0:ystart Y * 86400≤t) (t1:t<ystart (Y+1) * 86400)
 (h:Lst (chs st so (Y - 3) (Y+3)) (chs en dof (Y - 3) (Y+3)) t fd on L):on=true ↔ onS st en so dof t:=by
 obtain ⟨ya,a1,a2⟩:=chI_ex hs so t
 obtain ⟨yb,b1,b2⟩:=chI_ex he dof t
 have wa:=chI_win hs so0 t0 t1 a1 a2
 have wb:=chI_win he do0 t0 t1 b1 b2
 rw [onS_iff hs he a1 a2 b1 b2]
 have ma:chs st so (Y - 3) (Y+3) (chI st so ya):=⟨ya,by omega,by omega,rfl⟩
 have mb:chs en dof (Y - 3) (Y+3) (chI en dof yb):=⟨yb,by omega,by omega,rfl⟩
 rcases h with ⟨_,_,h3⟩ | ⟨_,h2,h3,h4,h5⟩
 ·have:=h3 _ (.inl ma);omega
 ·rw [h5]
  have ga:=h3 _ (.inl ma) a1
  have gb:=h3 _ (.inr mb) b1
  constructor
  ·rintro ⟨z,z1,z2,rfl⟩
   have:=(chI_le hs so).2 (chI_uniq hs so a1 a2 h2)
   omega
  ·intro hle
   rcases h4 with h4 | ⟨z,z1,z2,rfl⟩
   ·exact h4
   ·have:=(chI_le he dof).2 (chI_uniq he dof b1 b2 h2)
    have e:chI en dof z=chI st so ya:=by omega
    rw [e];exact ma
def vres (b:Bool) (std:ByteArray) (so:Int) (dst:ByteArray) (dof:Int):Value:=.agg #[.bool true,.int .i64 (if b then dof else so),.bool b,.string (if b then dst else std)]
def RvOk (hd:Bool) (so dof:Int) (st en:RD):Prop:=hd=true→rdOk st∧rdOk en∧offOk so∧offOk dof
theorem RvOk.of {r:PR} (h:prOk r):RvOk r.2.2.1 r.2.1 r.2.2.2.2.1 r.2.2.2.2.2.1 r.2.2.2.2.2.2:=fun hd=>by
 obtain ⟨h1,h2,h3⟩:=h
 rw [if_pos hd] at h3
 exact ⟨h3.2.2.1,h3.2.2.2,h2,h3.2.1⟩
theorem year64 (t:Int) (h0:-9223372036854775808≤t) (h1:t<9223372036854775808):∃ Y M D,IsDate (t / 86400) Y M D∧ystart Y * 86400≤t∧t<ystart (Y+1) * 86400∧-500000000000≤Y∧Y≤500000000000:=by
 obtain ⟨Y,M,D,h⟩:=IsDate.ex (t / 86400)
 have:=h.year
 refine ⟨Y,M,D,h,by omega,by omega,?_,?_⟩ <;> (have:=h.year;unfold ystart at this;omega)
theorem bl_set4' {w0 w:World} {a b c d:Value} (h:Below w0.heap.size w0 w) {g:Nat} (hg:w0.heap.size≤g):Below w0.heap.size w0 ((((w.setCell ⟨g,0,none⟩ a).setCell ⟨g,1,none⟩ b).setCell ⟨g,2,none⟩ c).setCell ⟨g,3,none⟩ d) :=
 bl_set (bl_set (bl_set (bl_set h hg _) hg _) hg _) hg _
namespace r11_
end r11_
def Tb (w:World):Prop:=4<w.heap.size∧∀ (i:Nat) (v:Int),[31,28,31,30,31,30,31,31,30,31,30,31][i]?=some v→w.cell? ⟨4,i,none⟩=some (.int .i64 v)
theorem Tb.below {w w':World} (h:Tb w) (hb:Below w.heap.size w w'):Tb w':=⟨Nat.lt_of_lt_of_le h.1 hb.size,fun i v hi=>cellE hb (h.2 i v hi)⟩
namespace cv_
theorem divide_ (v n:Int) (w:World) (hn:n=400∨n=146097∨n=7) (h0:-9223372036854775808≤v) (h1:v<9223372036854775808) :
 Calls Tryz.prog 300 #[.int .i64 v,.int .i64 n] w fun e w'=>e=.returned (.tuple #[.int .i64 (v / n),.int .i64 (v % n)])∧Below w.heap.size w w':=by
 by_cases hp:0≤v
 ·rcases hn with rfl | rfl | rfl
  all_goals
   go_enter Tryz.func300,Tryz.ntmps300
   go_wp2
   go_region
   go_wp2
   go_ret2
   exact ⟨rfl,bl_drew (bl_refl _)⟩
 ·rcases hn with rfl | rfl | rfl
  all_goals
   obtain ⟨z,hz⟩:∃ z:Nat,v=-(z:Int):=⟨(-v).toNat,by omega⟩
  ·have e1:v.tdiv 400=-((z:Int) / 400):=by rw [hz,Int.neg_tdiv,Int.tdiv_eq_ediv_of_nonneg (by omega)]
   have e2:v.tmod 400=-((z:Int) % 400):=by rw [hz,Int.neg_tmod,Int.tmod_eq_emod_of_nonneg (by omega)]
   go_enter Tryz.func300,Tryz.ntmps300
   go_wp2
   go_region
   go_wp2
   all_goals go_ret2
   all_goals exact ⟨ret2i (by omega) (by omega),bl_drew (bl_refl _)⟩
  ·have e1:v.tdiv 146097=-((z:Int) / 146097):=by rw [hz,Int.neg_tdiv,Int.tdiv_eq_ediv_of_nonneg (by omega)]
   have e2:v.tmod 146097=-((z:Int) % 146097):=by rw [hz,Int.neg_tmod,Int.tmod_eq_emod_of_nonneg (by omega)]
   go_enter Tryz.func300,Tryz.ntmps300
   go_wp2
   go_region
   go_wp2
   all_goals go_ret2
   all_goals exact ⟨ret2i (by omega) (by omega),bl_drew (bl_refl _)⟩
  ·have e1:v.tdiv 7=-((z:Int) / 7):=by rw [hz,Int.neg_tdiv,Int.tdiv_eq_ediv_of_nonneg (by omega)]
   have e2:v.tmod 7=-((z:Int) % 7):=by rw [hz,Int.neg_tmod,Int.tmod_eq_emod_of_nonneg (by omega)]
   go_enter Tryz.func300,Tryz.ntmps300
   go_wp2
   go_region
   go_wp2
   all_goals go_ret2
   all_goals exact ⟨ret2i (by omega) (by omega),bl_drew (bl_refl _)⟩
theorem yearStart_ (y:Int) (w:World) (h0:-2000000000000≤y) (h1:y≤2000000000000) :
 Calls Tryz.prog 302 #[.int .i64 y] w fun e w'=>e=.returned (.int .i64 (ystart y+719528))∧Below w.heap.size w w':=by
 have D:=hide (divide_ y 400 w (.inl rfl) (by omega) (by omega))
 obtain ⟨k,hk⟩:∃ k,k=y / 400:=⟨_,rfl⟩
 obtain ⟨r,hr⟩:∃ r,r=y % 400:=⟨_,rfl⟩
 rw [← hk,← hr] at D
 have hr0:0≤r:=by omega
 have hr1:r<400:=by omega
 have hk0:-5000000010≤k:=by omega
 have hk1:k≤5000000010:=by omega
 have hf:=hide (show ystart y+719528=if r=0 then k * 146097+365 * r else k * 146097+365 * r+1+(r - 1) / 4 - (r - 1) / 100 by
  unfold ystart
  split <;> omega)
 clear hk hr
 generalize ystart y+719528=v at *
 by_cases hz:r=0
 ·subst hz
  go_enter Tryz.func302,Tryz.ntmps302
  go_wp2_with fail
  refine (D.out).mono ?_
  rintro e w1 ⟨rfl,hb⟩
  replace hb:=hide hb
  go_wp2
  go_ret
  exact ⟨reti (by rw [hf.out];simp),hb.out⟩
 ·go_enter Tryz.func302,Tryz.ntmps302
  go_wp2_with fail
  refine (D.out).mono ?_
  rintro e w1 ⟨rfl,hb⟩
  replace hb:=hide hb
  go_wp2
  go_ret
  exact ⟨reti (by rw [hf.out,if_neg hz]),hb.out⟩
theorem epoch_ (w:World):Calls Tryz.prog 301 #[] w fun e w'=>e=.returned (.int .i64 719528)∧Below w.heap.size w w':=by
 have D:=hide (yearStart_ 1970 w (by omega) (by omega))
 rw [show ystart 1970+719528=719528 from rfl] at D
 go_enter Tryz.func301,Tryz.ntmps301
 go_wp2_with fail
 refine (D.out).mono ?_
 rintro e w1 ⟨rfl,hb⟩
 replace hb:=hide hb
 go_wp2
 go_ret
 exact ⟨rfl,hb.out⟩
theorem IsLeap_ (y:Int) (w:World) (h0:-9223372036854775808≤y) (h1:y<9223372036854775808) :
 Calls Tryz.prog 312 #[.int .i64 y] w fun e w'=>e=.returned (.bool (leap y))∧w=w':=by
 go_enter Tryz.func312,Tryz.ntmps312
 go_wp2
 all_goals go_ret
 all_goals
  refine ⟨retb ?_,rfl⟩
  have k1:=tmodI y 400
  have k2:=tmodI y 4
  have k3:=tmodI y 100
  rw [Bool.eq_iff_iff,leap_iff]
  simp_all
  try omega
theorem IsLeap (y:Int) (w:World) (hT:Tb w) (h0:-1099511627776≤y) (h1:y≤1099511627776) :
 Calls Tryz.prog 312 #[.int .i64 y] w fun e w'=>e=.returned (.bool (leap y))∧Below w.heap.size w w' :=
 (IsLeap_ y w (by omega) (by omega)).mono (by rintro e w' ⟨rfl,rfl⟩;exact ⟨rfl,bl_refl _⟩)
theorem MonthDays_ (y m:Int) (w:World) (hT:Tb w) (h0:-9223372036854775808≤y) (h1:y<9223372036854775808) (h2:1≤m) (h3:m≤12) :
 Calls Tryz.prog 303 #[.int .i64 y,.int .i64 m] w fun e w'=>e=.returned (.int .i64 (mdays y m))∧w=w':=by
 have C:=hide (IsLeap_ y w h0 h1)
 obtain ⟨k,rfl⟩:∃ k:Nat,m=(k:Int)+1:=⟨(m - 1).toNat,by omega⟩
 have hk:k≤11:=by omega
 by_cases hm:k=1
 ·subst hm
  have hcell:w.cell? ⟨4,1,none⟩=some (.int .i64 28):=hT.2 1 28 rfl
  have hf:=hide (show mdays y (((1:Nat):Int)+1)=if leap y then 29 else 28 from rfl)
  generalize leap y=b at *
  cases b
  all_goals
   go_enter Tryz.func303,Tryz.ntmps303
   go_wp2_with (go_at_call 312;refine (C.out).mono ?_;rintro e w' ⟨rfl,rfl⟩)
   go_ret
   exact ⟨reti (by rw [hf.out];rfl),rfl⟩
 ·have hcell:∃ v,w.cell? ⟨4,k,none⟩=some (.int .i64 v)∧Hid (v=mdays y ((k:Int)+1)):=by
   have h:=hT.2 k
   rcases (show k=0∨k=2∨k=3∨k=4∨k=5∨k=6∨k=7∨k=8∨k=9∨k=10∨k=11 by omega) with rfl | rfl | rfl | rfl | rfl | rfl | rfl | rfl | rfl | rfl | rfl
   all_goals exact ⟨_,h _ rfl,hide (by simp [mdays])⟩
  obtain ⟨v,hc,hv⟩:=hcell
  go_enter Tryz.func303,Tryz.ntmps303
  go_wp2
  go_ret
  exact ⟨reti hv.out,rfl⟩
theorem MonthDays (y m:Int) (w:World) (hT:Tb w) (h0:-1099511627776≤y) (h1:y≤1099511627776) (h2:1≤m) (h3:m≤12) :
 Calls Tryz.prog 303 #[.int .i64 y,.int .i64 m] w fun e w'=>e=.returned (.int .i64 (mdays y m))∧Below w.heap.size w w' :=
 (MonthDays_ y m w hT (by omega) (by omega) h2 h3).mono (by rintro e w' ⟨rfl,rfl⟩;exact ⟨rfl,bl_refl _⟩)
theorem YearDay_ (y m d:Int) (w:World) (hT:Tb w) (h0:-9223372036854775808≤y) (h1:y<9223372036854775808) (hm0:1≤m) (hm1:m≤12) (hd0:1≤d) (hd1:d≤31) :
 Calls Tryz.prog 327 #[.int .i64 y,.int .i64 m,.int .i64 d] w fun e w'=>e=.returned (.int .i64 (yday y m d))∧w=w':=by
 obtain ⟨q,rfl⟩:∃ q:Nat,m=(q:Int)+1:=⟨(m - 1).toNat,by omega⟩
 have hq:q≤11:=by omega
 have hfin:=hide (show yday y ((q:Int)+1) d=d - 1+cum y q by unfold yday;rw [show ((q:Int)+1 - 1).toNat=q by omega];omega)
 have C:=hide (fun m=>MonthDays_ y m w hT h0 h1)
 have B:=hide (cum_bd y)
 have D:=hide (mdays_bd y)
 clear hm0 hm1 hT
 go_enter Tryz.func327,Tryz.ntmps327
 go_wp2
 go_loop [7,8] (fun n k=>∃ j:Nat,j≤q∧k=.int .i64 ((j:Int)+1)∧n=.int .i64 (d - 1+cum y j)) (fun _ k=>q+1 - (intOf k).toNat)
 case atStart=>exact ⟨0,by omega,rfl,by simp [cum]⟩
 case round =>
  obtain ⟨j,hj,rfl,rfl⟩:=hrel
  by_cases hlt:j<q
  ·have b1:=B.out j
   have b2:=D.out ((j:Int)+1)
   have s1:=hide (show cum y (j+1)=cum y j+mdays y ((j:Int)+1) from rfl)
   have C1:=hide (C.out ((j:Int)+1) (by omega) (by omega))
   generalize cum y j=c at *
   generalize mdays y ((j:Int)+1)=x at *
   obtain ⟨b1,b1'⟩:=b1
   obtain ⟨b2,b2'⟩:=b2
   go_wp2_with (go_at_call 303;refine (C1.out).mono ?_;rintro e w' ⟨rfl,rfl⟩)
   go_round
   case rel=>exact ⟨j+1,by omega,by go_num,by rw [s1.out];exact congrArg _ (by omega)⟩
   case measure=>simp [intOf];omega
  ·obtain rfl:j=q:=by omega
   go_wp2
   go_ret
   exact ⟨reti hfin.out.symm,rfl⟩
theorem Vd.bd {y m d:Int} (h:Vd y m d):-1099511627776≤y∧y≤1099511627776∧1≤m∧m≤12∧1≤d∧d≤31:=by
 obtain ⟨h1,h2,h3,h4,h5,h6⟩:=h
 have:=mdays_bd y m
 omega
theorem YearDay (y m d:Int) (w:World) (hT:Tb w) (h:Vd y m d) :
 Calls Tryz.prog 327 #[.int .i64 y,.int .i64 m,.int .i64 d] w fun e w'=>e=.returned (.int .i64 (yday y m d))∧Below w.heap.size w w':=by
 obtain ⟨a,b,c,e,f,g⟩:=Vd.bd h
 exact (YearDay_ y m d w hT (by omega) (by omega) c e f g).mono (by rintro e w' ⟨rfl,rfl⟩;exact ⟨rfl,bl_refl _⟩)
theorem Days (y m d:Int) (w:World) (hT:Tb w) (h:Vd y m d) :
 Calls Tryz.prog 314 #[.int .i64 y,.int .i64 m,.int .i64 d] w fun e w'=>e=.returned (.int .i64 (days y m d))∧Below w.heap.size w w':=by
 obtain ⟨a,b,c,e,f,g⟩:=Vd.bd h
 have Y:=hide (fun w hT=>YearDay y m d w hT h)
 have S:=hide (yearStart_ y w (by omega) (by omega))
 have hyb:0≤yday y m d∧yday y m d≤400:=by
  have:=cum_bd y (m - 1).toNat
  unfold yday
  omega
 have hsb:-500000000000000≤ystart y∧ystart y≤500000000000000:=by unfold ystart;omega
 have hf:=hide (show days y m d=ystart y+yday y m d from rfl)
 generalize days y m d=v at *
 generalize ystart y=s at *
 generalize yday y m d=yd at *
 obtain ⟨hyb,hyb'⟩:=hyb
 obtain ⟨hsb,hsb'⟩:=hsb
 have HT:=hide hT
 clear hT h
 go_enter Tryz.func314,Tryz.ntmps314
 go_wp2_with fail
 refine (S.out).mono ?_
 rintro e w1 ⟨rfl,h1⟩
 have hb:=hide h1
 replace HT:=hide (HT.out.below h1)
 clear h1
 go_wp2_with fail
 refine (epoch_ _).mono ?_
 rintro e w2 ⟨rfl,h1⟩
 replace hb:=hide (bel_next hb.out h1)
 replace HT:=hide (HT.out.below h1)
 clear h1
 go_wp2_with fail
 refine (Y.out _ HT.out).mono ?_
 rintro e w3 ⟨rfl,h1⟩
 replace hb:=hide (bel_next hb.out h1)
 clear h1
 go_wp2
 go_ret
 exact ⟨reti (by have:=hf.out;omega),hb.out⟩
theorem Weekday (n:Int) (w:World) (hT:Tb w) (h0:loDay≤n) (h1:n≤hiDay) :
 Calls Tryz.prog 294 #[.int .i64 n] w fun e w'=>e=.returned (.int .i64 ((n+4) % 7))∧Below w.heap.size w w':=by
 have hl:-500000000000000≤loDay:=by decide +kernel
 have hh:hiDay≤500000000000000:=by decide +kernel
 have g0:-500000000000000≤n:=by omega
 have g1:n≤500000000000000:=by omega
 clear h0 h1 hl hh
 obtain ⟨t,ht⟩:∃ t,t=n.tmod 7:=⟨_,rfl⟩
 have htb:-7<t∧t<7∧(t+4) % 7=(n+4) % 7:=by
  by_cases hp:0≤n
  ·rw [Int.tmod_eq_emod_of_nonneg hp] at ht
   omega
  ·obtain ⟨z,hz⟩:∃ z:Nat,n=-(z:Int):=⟨(-n).toNat,by omega⟩
   rw [hz,Int.neg_tmod,Int.tmod_eq_emod_of_nonneg (by omega)] at ht
   omega
 obtain ⟨t0,t1,t2⟩:=htb
 have H2:=hide t2
 clear t2
 have D:=hide (divide_ (t+4) 7 w (.inr (.inr rfl)) (by omega) (by omega))
 go_enter Tryz.func294,Tryz.ntmps294
 have ht':=ht.symm
 clear ht
 go_wp2_with fail
 refine (D.out).mono ?_
 rintro e w1 ⟨rfl,hb⟩
 replace hb:=hide hb
 go_wp2
 go_ret
 exact ⟨reti H2.out,hb.out⟩
theorem Date (n Y M D:Int) (w:World) (hT:Tb w) (h0:loDay≤n) (h1:n≤hiDay) (h:IsDate n Y M D) :
 Calls Tryz.prog 293 #[.int .i64 n] w fun e w'=>e=.returned (.tuple #[.int .i64 Y,.int .i64 M,.int .i64 D])∧Below w.heap.size w w':=by
 have hl:-500000000000000≤loDay:=by decide +kernel
 have hh:hiDay≤500000000000000:=by decide +kernel
 have g0:-500000000000000≤n:=by omega
 have g1:n≤500000000000000:=by omega
 clear h0 h1 hl hh
 obtain ⟨k,hk⟩:∃ k,k=(n+719528) / 146097:=⟨_,rfl⟩
 obtain ⟨r,hr⟩:∃ r,r=(n+719528) % 146097:=⟨_,rfl⟩
 obtain ⟨q,mm,yd,rfl,hq,rfl,hmm,hyd,hyd0,hyd1,hc1,hc2,rfl⟩:=h.era (k:=k - 5) (r:=r) (by omega) (by omega) (by omega)
 clear h
 have q0:(0:Int)≤q:=by omega
 have q1:(q:Int)<400:=by omega
 generalize (q:Int)=q at *
 clear hq
 have hs:ystart (2000+q)=ystart q+730485:=by
  have:=ystart_per q 5
  rw [show (2000:Int)+q=q+400 * 5 by omega,this]
  omega
 rw [hs] at hyd
 have hq1:ystart (q+1)=ystart q+ylen q:=ystart_succ q
 have hyl:=ylen_bd q
 have hsb:ystart q=365 * q+((q - 1) / 4 - (q - 1) / 100+(q - 1) / 400) - 719527:=rfl
 have hsb1:ystart (q+1)=365 * (q+1)+((q+1 - 1) / 4 - (q+1 - 1) / 100+(q+1 - 1) / 400) - 719527:=rfl
 have hr0:0≤r:=by omega
 have hr1:r<146097:=by omega
 have hk0:-3500000000≤k:=by omega
 have hk1:k≤3500000000:=by omega
 have D1:=hide (fun w=>divide_ (n+719528) 146097 w (.inr (.inl rfl)) (by omega) (by omega))
 rw [← hk,← hr] at D1
 have S:=hide (fun i w h0 h1=>yearStart_ i w h0 h1)
 have HT:=hide hT
 have Hc1:=hide hc1
 have Hc2:=hide hc2
 have Hy:∃ u:Int,r.tdiv 366=u∧((q=u∧r<ystart (u+1)+719528)∨(q=u+1∧ystart (u+1)+719528≤r))∧r - (ystart q+719528)=yd:=by
  refine ⟨r / 366,Int.tdiv_eq_ediv_of_nonneg hr0,?_,by omega⟩
  by_cases hu:r / 366=q
  ·exact .inl ⟨hu.symm,by rw [hu];omega⟩
  ·have:r / 366+1=q:=by omega
   refine .inr ⟨this.symm,?_⟩
   rw [this]
   omega
 obtain ⟨u,hu,hcase,hyd2⟩:=Hy
 have hu0:u<400:=by omega
 have hu1:0≤u:=by rw [← hu,Int.tdiv_eq_ediv_of_nonneg hr0];omega
 have hqb:0≤ystart q+719528∧ystart q+719528≤146097:=by omega
 have hub:0≤ystart (u+1)+719528∧ystart (u+1)+719528≤146098+366:=by
  have:ystart (u+1)=365 * (u+1)+((u+1 - 1) / 4 - (u+1 - 1) / 100+(u+1 - 1) / 400) - 719527:=rfl
  omega
 have hyb:yd≤366:=by omega
 have C:=hide (fun m w hT h2 h3=>MonthDays_ q m w hT (by omega) (by omega) h2 h3)
 have B:=hide (cum_bd q)
 have D:=hide (mdays_bd q)
 have CM:=hide (fun (j k:Nat) (h:j≤k)=>cum_mono q h)
 have CS:=hide (show ∀ i:Nat,cum q (i+1)=cum q i+mdays q ((i:Int)+1) from fun _=>rfl)
 have C0:=hide (show cum q 0=0 from rfl)
 have hfy:=hide (show k * 400+q=2000+400 * (k - 5)+q by omega)
 have S1:=hide (fun w=>S.out (u+1) w (by omega) (by omega))
 have S2:=hide (fun w=>S.out q w (by omega) (by omega))
 clear hT hk hr hyd hs hq1 hyl hsb hsb1 hc1 hc2 hyd1 S
 generalize ystart (u+1)+719528=s1 at *
 generalize ystart q+719528=s2 at *
 generalize cum q=cf at *
 generalize mdays q=mf at *
 obtain ⟨hqb,hqb'⟩:=hqb
 obtain ⟨hub,hub'⟩:=hub
 rcases hcase with ⟨rfl,hlt⟩ | ⟨rfl,hlt⟩
 all_goals
  go_enter Tryz.func293,Tryz.ntmps293
  go_wp2_with fail
  refine (epoch_ _).mono ?_
  rintro e w1 ⟨rfl,h1⟩
  have hb:=hide h1
  replace HT:=hide (HT.out.below h1)
  clear h1
  go_wp2_with fail
  refine (D1.out _).mono ?_
  rintro e w1 ⟨rfl,h1⟩
  replace hb:=hide (bel_next hb.out h1)
  replace HT:=hide (HT.out.below h1)
  clear h1
  go_wp2_with fail
  refine (S1.out _).mono ?_
  rintro e w1 ⟨rfl,h1⟩
  replace hb:=hide (bel_next hb.out h1)
  replace HT:=hide (HT.out.below h1)
  clear h1
  go_wp2_with fail
  refine (S2.out _).mono ?_
  rintro e w1 ⟨rfl,h1⟩
  replace hb:=hide (bel_next hb.out h1)
  replace HT:=hide (HT.out.below h1)
  clear h1
  go_wp2
  go_loop [8,9] (fun m n=>∃ (i:Nat) (v:Int),i≤mm∧m=.int .i64 ((i:Int)+1)∧n=.int .i64 v∧Hid (v=yd - cf i)) (fun m _=>mm+1 - (intOf m).toNat)
  case atStart=>exact ⟨0,_,by omega,rfl,rfl,hide (by rw [C0.out];omega)⟩
  case round =>
   obtain ⟨i,v,hi,rfl,rfl,hv⟩:=hrel
   have hvv:=hv.out
   have C1:=hide (C.out ((i:Int)+1) _ HT.out (by omega) (by omega))
   obtain ⟨b2,b3⟩:=D.out ((i:Int)+1)
   obtain ⟨b1,b4⟩:=B.out i
   have hcs:=CS.out i
   have h1:=Hc1.out
   have h2:=Hc2.out
   by_cases hlt2:i<mm
   ·have hcm:=CM.out (i+1) mm (by omega)
    have hge:mf ((i:Int)+1)≤v:=by omega
    have hun:=hide (show v - mf ((i:Int)+1)=yd - cf (i+1) by omega)
    have hvb:v≤366:=by omega
    clear hvv hcs h1 h2 hcm b1 b4
    generalize mf ((i:Int)+1)=x at *
    go_wp2_with (go_at_call 303;refine (C1.out).mono ?_;rintro e w' ⟨rfl,rfl⟩)
    go_round
    case rel=>exact ⟨i+1,_,by omega,by go_num,rfl,hun⟩
    case measure=>simp [intOf];omega
   ·obtain rfl:i=mm:=by omega
    have hlt3:v<mf ((i:Int)+1):=by omega
    have hv0:0≤v:=by omega
    have hD:=hide (show v+1=yd - cf i+1 by omega)
    clear hvv hcs h1 h2 b1 b4
    generalize mf ((i:Int)+1)=x at *
    go_wp2_with (go_at_call 303;refine (C1.out).mono ?_;rintro e w' ⟨rfl,rfl⟩)
    go_ret3
    exact ⟨ret3i (by have:=hfy.out;omega) rfl hD.out,hb.out⟩
end cv_
open Go.ChangeShapes Go.WideShapes Go.ChangeAt Go.RowKit Go.Maps
namespace rd_
theorem Valid (K D M Wk Wd T:Int) (w:World) (hT:Tb w) (hw:(Lit.int .i64 K).wf=true):Calls Tryz.prog 292 #[vrd K D M Wk Wd T] w fun e w'=>e=.returned (.bool (decide (RdOk K D M Wk Wd T)))∧Below w.heap.size w w':=Valid_ K D M Wk Wd T w hw
theorem days_from (y M d:Int):days y M d=days y M 1+(d - 1):=by unfold days yday;omega
def fnJ:Value:=.func (.func 313) #[] #[]
def fnZ:Value:=.func (.func 315) #[] #[]
def fnP:Value:=.func (.func 316) #[] #[]
def Plc (w:World) (B:Nat):Prop:=w.ownsMap Tryz.prog 3 heldE B 3 (three fnJ fnZ fnP)
theorem Plc.own {w:World} {B:Nat} (h:Plc w B):w.ownsMap Tryz.prog 3 heldE B 3 (three fnJ fnZ fnP):=h
theorem places_ (w:World):Calls Tryz.prog 304 #[] w fun e w'=>∃ B,e=.returned (.map (some B))∧Plc w' B∧Below w.heap.size w w':=by
 have hmm:=@run_makeMap Tryz.prog
 have o0:=hide (World.ownsMap_made w Tryz.prog 3 heldE)
 have b0:=hide (bl_new w (.map #[] 0))
 have z0:(w.alloc (.map #[] 0)).heap.size=w.heap.size+1:=by simp
 go_enter Tryz.func304,Tryz.ntmps304
 go_wp2_with (first
  | (refine wpList_insert_held _ rfl _ _ _ 331 rfl 3 223 law Tryz.underlying331 w.heap.size 0 (.map []) rfl o0.out (by decide) _ fnJ (.int .i64 1) rfl rfl (keyl (by decide)) ?_;intro w2 o2 g2)
  | (refine wpList_insert_held _ rfl _ _ _ 331 rfl 3 223 law Tryz.underlying331 w.heap.size 1 _ rfl (hide o2).out (by decide) _ fnZ (.int .i64 2) rfl rfl (keyl (by decide)) ?_;intro w4 o4 g4)
  | (refine wpList_insert_held _ rfl _ _ _ 331 rfl 3 223 law Tryz.underlying331 w.heap.size 2 _ rfl (hide o4).out (by decide) _ fnP (.int .i64 3) rfl rfl (keyl (by decide)) ?_;intro w5 o5 g5))
 have s2:=g2.size
 have s4:=g4.size
 have s5:=g5.size
 go_ret
 exact ⟨_,rfl,o5,((b0.out.grown g2 (by omega) (fun j hj=>by cases hj;omega)).grown g4 (by omega) (fun j hj=>by cases hj;omega)).grown g5 (by omega) (fun j hj=>by cases hj;omega)⟩
theorem vd1 {y M d:Int} (h0:-600000000001≤y) (h1:y≤600000000001) (hd:DateOk y M d):Vd y M d:=⟨by omega,by omega,hd⟩
theorem ok1 {y M:Int} (h0:1≤M) (h1:M≤12):DateOk y M 1:=⟨h0,h1,by omega,by have:=mdays_bd y M;omega⟩
theorem zero_ (K D M Wk Wd T y:Int) (w:World) (hT:Tb w) (h0:-600000000001≤y) (h1:y≤600000000001) (d0:0≤D) (d1:D≤366):Calls Tryz.prog 315 #[vrd K D M Wk Wd T,.int .i64 y] w fun e w'=>e=.returned (.int .i64 (ystart y+D))∧Below w.heap.size w w':=by
 have hs:-240000000000000≤ystart y∧ystart y≤240000000000000:=by unfold ystart;omega
 have C:=hide (fun w hT=>cv_.Days y 1 1 w hT (vd1 h0 h1 (ok1 (by omega) (by omega))))
 rw [days_first] at C
 generalize ystart y=s at *
 obtain ⟨s0,s1⟩:=hs
 have hb:=hide (bl_new w (.cells #[.int .i64 K,.int .i64 D,.int .i64 M,.int .i64 Wk,.int .i64 Wd,.int .i64 T] 81))
 have bx:=hide (Bx.new w [.int .i64 K,.int .i64 D,.int .i64 M,.int .i64 Wk,.int .i64 Wd,.int .i64 T] 81)
 have HT:=hide (hT.below hb.out)
 have bxd:=hide (bx.out.drew)
 have hbd:=hide (bl_drew hb.out)
 have HTd:Hid (Tb (w.alloc (.cells #[.int .i64 K,.int .i64 D,.int .i64 M,.int .i64 Wk,.int .i64 Wd,.int .i64 T] 81)).drew):=HT
 clear hT
 have e1:IntKind.i64.wrap (s+D)=s+D:=by rw [IntKind.wrap_i64];omega
 unfold vrd
 go_enter Tryz.func315,Tryz.ntmps315
 go_upto_region 1 with fail
 go_region_with (go_at_call 314;with_reducible refine (C.out _ HTd.out).mono ?_;rintro e w6 ⟨rfl,h1'⟩;obtain ⟨y0,y1,y2,y3,y4,y5⟩:=cells6 (Bx.below bxd.out h1');have hbf:=hide (bel_next hbd.out h1');clear h1')
 all_goals
  go_wp2
  go_ret
  exact ⟨rfl,hbf.out⟩
theorem julian_ (K D M Wk Wd T y:Int) (w:World) (hT:Tb w) (h0:-600000000001≤y) (h1:y≤600000000001) (d0:1≤D) (d1:D≤365):Calls Tryz.prog 313 #[vrd K D M Wk Wd T,.int .i64 y] w fun e w'=>e=.returned (.int .i64 (rdj y D))∧Below w.heap.size w w':=by
 have hs:-240000000000000≤ystart y∧ystart y≤240000000000000:=by unfold ystart;omega
 have C:=hide (fun w hT=>cv_.Days y 1 1 w hT (vd1 h0 h1 (ok1 (by omega) (by omega))))
 have L:=hide (fun w hT=>cv_.IsLeap y w hT (by omega) (by omega))
 have hr:=hide (show rdj y D=ystart y+D - 1+(if leap y=true∧60≤D then 1 else 0) from rfl)
 rw [days_first] at C
 generalize rdj y D=r at *
 generalize ystart y=s at *
 generalize leap y=lp at *
 obtain ⟨s0,s1⟩:=hs
 have hb:=hide (bl_new w (.cells #[.int .i64 K,.int .i64 D,.int .i64 M,.int .i64 Wk,.int .i64 Wd,.int .i64 T] 81))
 have bx:=hide (Bx.new w [.int .i64 K,.int .i64 D,.int .i64 M,.int .i64 Wk,.int .i64 Wd,.int .i64 T] 81)
 have HT:=hide (hT.below hb.out)
 have bxd:=hide (bx.out.drew)
 have hbd:=hide (bl_drew hb.out)
 have HTd:Hid (Tb (w.alloc (.cells #[.int .i64 K,.int .i64 D,.int .i64 M,.int .i64 Wk,.int .i64 Wd,.int .i64 T] 81)).drew):=HT
 clear hT
 have e1:IntKind.i64.wrap (s+D)=s+D:=by rw [IntKind.wrap_i64];omega
 have e2:IntKind.i64.wrap (s+D - 1)=s+D - 1:=by rw [IntKind.wrap_i64];omega
 have e3:IntKind.i64.wrap (s+D - 1+1)=s+D - 1+1:=by rw [IntKind.wrap_i64];omega
 unfold vrd
 go_enter Tryz.func313,Tryz.ntmps313
 go_upto_region 1 with fail
 go_region_with (go_at_call 314;with_reducible refine (C.out _ HTd.out).mono ?_;rintro e w6 ⟨rfl,h1'⟩;obtain ⟨y0,y1,y2,y3,y4,y5⟩:=cells6 (Bx.below bxd.out h1');have hbf:=hide (bel_next hbd.out h1');have HTf:=hide (HTd.out.below h1');clear h1')
 all_goals
  rcases (show (D≤59)∨(59<D∧lp=true)∨(59<D∧lp=false) by cases lp <;> simp <;> omega) with hd | ⟨hd,rfl⟩ | ⟨hd,rfl⟩
  ·go_wp2
   go_ret
   exact ⟨reti (by rw [hr.out,if_neg (by omega)];omega),hbf.out⟩
  ·go_wp2_with (go_at_call 312;refine (L.out _ HTf.out).mono ?_;rintro e w7 ⟨rfl,h7⟩)
   go_ret
   exact ⟨reti (by rw [hr.out,if_pos (by simp;omega)];omega),bel_next hbf.out h7⟩
  ·go_wp2_with (go_at_call 312;refine (L.out _ HTf.out).mono ?_;rintro e w7 ⟨rfl,h7⟩)
   go_ret
   exact ⟨reti (by rw [hr.out,if_neg (by simp)];omega),bel_next hbf.out h7⟩
theorem week_ (K D M Wk Wd T y:Int) (w:World) (hT:Tb w) (h0:-600000000001≤y) (h1:y≤600000000001) (m0:1≤M) (m1:M≤12) (k0:1≤Wk) (k1:Wk≤5) (d0:0≤Wd) (d1:Wd≤6) :
 Calls Tryz.prog 317 #[vrd K D M Wk Wd T,.int .i64 y] w fun e w'=>e=.returned (.int .i64 (rdm y M Wk Wd - days y M 1+1))∧Below w.heap.size w w':=by
 have hv:=vd1 (d:=1) h0 h1 (ok1 m0 m1)
 have hdm:=hv.day
 have C:=hide (fun w hT=>cv_.Days y M 1 w hT hv)
 have W:=hide (fun w hT=>cv_.Weekday (days y M 1) w hT hdm.1 hdm.2)
 have L:=hide (fun w hT=>cv_.MonthDays y M w hT (by omega) (by omega) m0 m1)
 have hl:=mdays_bd y M
 obtain ⟨q,hq⟩:∃ q,q=(Wd - (days y M 1+4)) % 7:=⟨_,rfl⟩
 have q0:0≤q:=by omega
 have q1:q≤6:=by omega
 have hr:Hid (rdm y M Wk Wd - days y M 1+1=if 1+q+7 * (Wk - 1) > mdays y M then 1+q+7 * (Wk - 1) - 7 else 1+q+7 * (Wk - 1)):=hide (by
  unfold rdm rfirst
  rw [← hq]
  generalize days y M 1=s at *
  generalize mdays y M=l at *
  repeat' split
  all_goals omega)
 have et:(Wd - (days y M 1+4) % 7+7).tmod 7=q:=by rw [Int.tmod_eq_emod_of_nonneg (by omega)];omega
 clear hq hdm hv
 generalize rdm y M Wk Wd - days y M 1+1=r at *
 obtain ⟨f,hf⟩:∃ f,f=(days y M 1+4) % 7:=⟨_,rfl⟩
 have f0:0≤f:=by omega
 have f1:f≤6:=by omega
 rw [← hf] at W et
 clear hf
 generalize days y M 1=s at *
 generalize mdays y M=l at *
 obtain ⟨l0,l1⟩:=hl
 have hb:=hide (bl_new w (.cells #[.int .i64 K,.int .i64 D,.int .i64 M,.int .i64 Wk,.int .i64 Wd,.int .i64 T] 81))
 have bx:=hide (Bx.new w [.int .i64 K,.int .i64 D,.int .i64 M,.int .i64 Wk,.int .i64 Wd,.int .i64 T] 81)
 have HT:=hide (hT.below hb.out)
 have bxd:=hide (bx.out.drew)
 have hbd:=hide (bl_drew hb.out)
 have HTd:Hid (Tb (w.alloc (.cells #[.int .i64 K,.int .i64 D,.int .i64 M,.int .i64 Wk,.int .i64 Wd,.int .i64 T] 81)).drew):=HT
 clear hT
 clear bxd hbd HTd
 unfold vrd
 go_enter Tryz.func317,Tryz.ntmps317
 obtain ⟨x0,x1,x2,x3,x4,x5⟩:=cells6 bx.out
 go_wp2_with fail
 refine (C.out _ HT.out).mono ?_
 rintro e w1 ⟨rfl,h1⟩
 replace bx:=hide (bx.out.below h1)
 replace HT:=hide (HT.out.below h1)
 replace hb:=hide (bel_next hb.out h1)
 clear h1 x0 x1 x2 x3 x4 x5
 go_wp2_with fail
 refine (W.out _ HT.out).mono ?_
 rintro e w2 ⟨rfl,h1⟩
 replace bx:=hide (bx.out.below h1)
 replace HT:=hide (HT.out.below h1)
 replace hb:=hide (bel_next hb.out h1)
 clear h1
 obtain ⟨x0,x1,x2,x3,x4,x5⟩:=cells6 bx.out
 go_wp2_with fail
 refine (L.out _ HT.out).mono ?_
 rintro e w3 ⟨rfl,h1⟩
 replace hb:=hide (bel_next hb.out h1)
 clear h1 x0 x1 x2 x3 x4 x5 bx HT
 by_cases hgt:1+q+7 * (Wk - 1) > l
 ·go_wp2
  go_ret
  exact ⟨reti (by rw [hr.out,if_pos (by omega)]),hb.out⟩
 ·go_wp2
  go_ret
  exact ⟨reti (by rw [hr.out,if_neg (by omega)]),hb.out⟩
theorem place_ (K D M Wk Wd T y:Int) (w:World) (hT:Tb w) (h0:-600000000001≤y) (h1:y≤600000000001) (m0:1≤M) (m1:M≤12) (k0:1≤Wk) (k1:Wk≤5) (d0:0≤Wd) (d1:Wd≤6) :
 Calls Tryz.prog 316 #[vrd K D M Wk Wd T,.int .i64 y] w fun e w'=>e=.returned (.int .i64 (rdm y M Wk Wd))∧Below w.heap.size w w':=by
 have hrb:=rdm_bd y M Wk Wd d0 d1 k0 k1
 have W:=hide (fun w hT=>week_ K D M Wk Wd T y w hT h0 h1 m0 m1 k0 k1 d0 d1)
 have C:=hide (fun w hT=>cv_.Days y M (rdm y M Wk Wd - days y M 1+1) w hT (vd1 h0 h1 ⟨m0,m1,by omega,by omega⟩))
 rw [days_from y M (rdm y M Wk Wd - days y M 1+1),show days y M 1+(rdm y M Wk Wd - days y M 1+1 - 1)=rdm y M Wk Wd by omega] at C
 clear hrb
 generalize rdm y M Wk Wd - days y M 1+1=d at *
 generalize rdm y M Wk Wd=r at *
 have hb:=hide (bl_new w (.cells #[.int .i64 K,.int .i64 D,.int .i64 M,.int .i64 Wk,.int .i64 Wd,.int .i64 T] 81))
 have bx:=hide (Bx.new w [.int .i64 K,.int .i64 D,.int .i64 M,.int .i64 Wk,.int .i64 Wd,.int .i64 T] 81)
 have HT:=hide (hT.below hb.out)
 have bxd:=hide (bx.out.drew)
 have hbd:=hide (bl_drew hb.out)
 have HTd:Hid (Tb (w.alloc (.cells #[.int .i64 K,.int .i64 D,.int .i64 M,.int .i64 Wk,.int .i64 Wd,.int .i64 T] 81)).drew):=HT
 clear hT
 unfold vrd at *
 go_enter Tryz.func316,Tryz.ntmps316
 go_upto_region 1 with fail
 go_region_with (first
  | (go_at_call 317;with_reducible refine (W.out _ HTd.out).mono ?_;rintro e w6 ⟨rfl,h1'⟩;obtain ⟨y0,y1,y2,y3,y4,y5⟩:=cells6 (Bx.below bxd.out h1');have hbf:=hide (bel_next hbd.out h1');have HTf:=hide (HTd.out.below h1');clear h1')
  | (go_at_call 314;with_reducible refine (C.out _ HTf.out).mono ?_;rintro e w7 ⟨rfl,h1'⟩;replace hbf:=hide (bel_next hbf.out h1');clear h1'))
 all_goals
  go_wp2
  go_ret
  exact ⟨rfl,hbf.out⟩
theorem Day1 (K D M Wk Wd T y:Int) (w:World) (hT:Tb w) (hK:K=1) (hv:RdOk K D M Wk Wd T) (h0:-600000000001≤y) (h1:y≤600000000001) (d0:1≤D) (d1:D≤365) :
 Calls Tryz.prog 295 #[vrd K D M Wk Wd T,.int .i64 y] w fun e w'=>e=.returned (.int .i64 (rdj y D))∧Below w.heap.size w w':=by
 have V:Hid (∀ w,Tb w→Calls Tryz.prog 292 #[vrd K D M Wk Wd T] w fun e w'=>e=.returned (.bool true)∧Below w.heap.size w w'):=hide (fun w hT=>by
  have:=Valid K D M Wk Wd T w hT (by rw [hK];decide)
  rwa [decide_eq_true hv] at this)
 have P:=hide (fun w=>places_ w)
 have F:=hide (fun w hT=>julian_ K D M Wk Wd T y w hT h0 h1 d0 d1)
 have zf:∀ w,(zeroValue 223).run Tryz.prog w=.ok .nilFunc w:=fun _=>rfl
 generalize rdj y D=r at *
 clear hv
 subst hK
 have hb:=hide (bl_new w (.cells #[.int .i64 1,.int .i64 D,.int .i64 M,.int .i64 Wk,.int .i64 Wd,.int .i64 T] 81))
 have bx:=hide (Bx.new w [.int .i64 1,.int .i64 D,.int .i64 M,.int .i64 Wk,.int .i64 Wd,.int .i64 T] 81)
 have HT:=hide (hT.below hb.out)
 have bxd:=hide (bx.out.drew)
 have hbd:=hide (bl_drew hb.out)
 have HTd:Hid (Tb (w.alloc (.cells #[.int .i64 1,.int .i64 D,.int .i64 M,.int .i64 Wk,.int .i64 Wd,.int .i64 T] 81)).drew):=HT
 clear hT
 clear bxd hbd HTd
 unfold vrd at *
 obtain ⟨x0,x1,x2,x3,x4,x5⟩:=cells6 bx.out
 go_enter Tryz.func295,Tryz.ntmps295
 go_wp2_with fail
 refine (V.out _ HT.out).mono ?_
 rintro e w1 ⟨rfl,h1⟩
 clear x0 x1 x2 x3 x4 x5
 replace bx:=hide (bx.out.below h1)
 replace HT:=hide (HT.out.below h1)
 replace hb:=hide (bel_next hb.out h1)
 clear h1
 obtain ⟨x0,x1,x2,x3,x4,x5⟩:=cells6 bx.out
 have bxd:=hide (bx.out.drew)
 have hbd:=hide (bl_drew hb.out)
 have HTd:Hid (Tb w1.drew):=HT
 go_upto_region 3 with fail
 clear x0 x1 x2 x3 x4 x5
 obtain ⟨x0,x1,x2,x3,x4,x5⟩:=cells6 bx.out
 go_region_with (first
  | (go_at_call 304;(with_reducible refine (P.out _).mono ?_;rintro e w6 ⟨B,rfl,hc,h1'⟩;have hl:=held_look hc.own law Tryz.underlying331 (zf _) (keyl (by decide)) (three_1 fnJ fnZ fnP).1;simp only [fnJ] at hl;obtain ⟨y0,y1,y2,y3,y4,y5⟩:=cells6 (Bx.below bxd.out h1');have hbf:=hide (bel_next hbd.out h1');have HTf:=hide (HTd.out.below h1');clear h1' hc))
  | (with_reducible refine (F.out _ HTf.out).mono ?_;rintro e w7 ⟨rfl,h1'⟩;replace hbf:=hide (bel_next hbf.out h1');clear h1'))
 all_goals
  go_wp2
  go_ret
  exact ⟨rfl,hbf.out⟩
theorem Day2 (K D M Wk Wd T y:Int) (w:World) (hT:Tb w) (hK:K=2) (hv:RdOk K D M Wk Wd T) (h0:-600000000001≤y) (h1:y≤600000000001) (d0:0≤D) (d1:D≤366) :
 Calls Tryz.prog 295 #[vrd K D M Wk Wd T,.int .i64 y] w fun e w'=>e=.returned (.int .i64 (ystart y+D))∧Below w.heap.size w w':=by
 have V:Hid (∀ w,Tb w→Calls Tryz.prog 292 #[vrd K D M Wk Wd T] w fun e w'=>e=.returned (.bool true)∧Below w.heap.size w w'):=hide (fun w hT=>by
  have:=Valid K D M Wk Wd T w hT (by rw [hK];decide)
  rwa [decide_eq_true hv] at this)
 have P:=hide (fun w=>places_ w)
 have F:=hide (fun w hT=>zero_ K D M Wk Wd T y w hT h0 h1 d0 d1)
 have zf:∀ w,(zeroValue 223).run Tryz.prog w=.ok .nilFunc w:=fun _=>rfl
 generalize ystart y+D=r at *
 clear hv
 subst hK
 have hb:=hide (bl_new w (.cells #[.int .i64 2,.int .i64 D,.int .i64 M,.int .i64 Wk,.int .i64 Wd,.int .i64 T] 81))
 have bx:=hide (Bx.new w [.int .i64 2,.int .i64 D,.int .i64 M,.int .i64 Wk,.int .i64 Wd,.int .i64 T] 81)
 have HT:=hide (hT.below hb.out)
 have bxd:=hide (bx.out.drew)
 have hbd:=hide (bl_drew hb.out)
 have HTd:Hid (Tb (w.alloc (.cells #[.int .i64 2,.int .i64 D,.int .i64 M,.int .i64 Wk,.int .i64 Wd,.int .i64 T] 81)).drew):=HT
 clear hT
 clear bxd hbd HTd
 unfold vrd at *
 obtain ⟨x0,x1,x2,x3,x4,x5⟩:=cells6 bx.out
 go_enter Tryz.func295,Tryz.ntmps295
 go_wp2_with fail
 refine (V.out _ HT.out).mono ?_
 rintro e w1 ⟨rfl,h1⟩
 clear x0 x1 x2 x3 x4 x5
 replace bx:=hide (bx.out.below h1)
 replace HT:=hide (HT.out.below h1)
 replace hb:=hide (bel_next hb.out h1)
 clear h1
 obtain ⟨x0,x1,x2,x3,x4,x5⟩:=cells6 bx.out
 have bxd:=hide (bx.out.drew)
 have hbd:=hide (bl_drew hb.out)
 have HTd:Hid (Tb w1.drew):=HT
 go_upto_region 3 with fail
 clear x0 x1 x2 x3 x4 x5
 obtain ⟨x0,x1,x2,x3,x4,x5⟩:=cells6 bx.out
 go_region_with (first
  | (go_at_call 304;(with_reducible refine (P.out _).mono ?_;rintro e w6 ⟨B,rfl,hc,h1'⟩;have hl:=held_look hc.own law Tryz.underlying331 (zf _) (keyl (by decide)) (three_2 fnJ fnZ fnP).1;simp only [fnZ] at hl;obtain ⟨y0,y1,y2,y3,y4,y5⟩:=cells6 (Bx.below bxd.out h1');have hbf:=hide (bel_next hbd.out h1');have HTf:=hide (HTd.out.below h1');clear h1' hc))
  | (with_reducible refine (F.out _ HTf.out).mono ?_;rintro e w7 ⟨rfl,h1'⟩;replace hbf:=hide (bel_next hbf.out h1');clear h1'))
 all_goals
  go_wp2
  go_ret
  exact ⟨rfl,hbf.out⟩
theorem Day3 (K D M Wk Wd T y:Int) (w:World) (hT:Tb w) (hK:K=3) (hv:RdOk K D M Wk Wd T) (h0:-600000000001≤y) (h1:y≤600000000001) (m0:1≤M) (m1:M≤12) (k0:1≤Wk) (k1:Wk≤5) (d0:0≤Wd) (d1:Wd≤6) :
 Calls Tryz.prog 295 #[vrd K D M Wk Wd T,.int .i64 y] w fun e w'=>e=.returned (.int .i64 (rdm y M Wk Wd))∧Below w.heap.size w w':=by
 have V:Hid (∀ w,Tb w→Calls Tryz.prog 292 #[vrd K D M Wk Wd T] w fun e w'=>e=.returned (.bool true)∧Below w.heap.size w w'):=hide (fun w hT=>by
  have:=Valid K D M Wk Wd T w hT (by rw [hK];decide)
  rwa [decide_eq_true hv] at this)
 have P:=hide (fun w=>places_ w)
 have F:=hide (fun w hT=>place_ K D M Wk Wd T y w hT h0 h1 m0 m1 k0 k1 d0 d1)
 have zf:∀ w,(zeroValue 223).run Tryz.prog w=.ok .nilFunc w:=fun _=>rfl
 generalize rdm y M Wk Wd=r at *
 clear hv
 subst hK
 have hb:=hide (bl_new w (.cells #[.int .i64 3,.int .i64 D,.int .i64 M,.int .i64 Wk,.int .i64 Wd,.int .i64 T] 81))
 have bx:=hide (Bx.new w [.int .i64 3,.int .i64 D,.int .i64 M,.int .i64 Wk,.int .i64 Wd,.int .i64 T] 81)
 have HT:=hide (hT.below hb.out)
 have bxd:=hide (bx.out.drew)
 have hbd:=hide (bl_drew hb.out)
 have HTd:Hid (Tb (w.alloc (.cells #[.int .i64 3,.int .i64 D,.int .i64 M,.int .i64 Wk,.int .i64 Wd,.int .i64 T] 81)).drew):=HT
 clear hT
 clear bxd hbd HTd
 unfold vrd at *
 obtain ⟨x0,x1,x2,x3,x4,x5⟩:=cells6 bx.out
 go_enter Tryz.func295,Tryz.ntmps295
 go_wp2_with fail
 refine (V.out _ HT.out).mono ?_
 rintro e w1 ⟨rfl,h1⟩
 clear x0 x1 x2 x3 x4 x5
 replace bx:=hide (bx.out.below h1)
 replace HT:=hide (HT.out.below h1)
 replace hb:=hide (bel_next hb.out h1)
 clear h1
 obtain ⟨x0,x1,x2,x3,x4,x5⟩:=cells6 bx.out
 have bxd:=hide (bx.out.drew)
 have hbd:=hide (bl_drew hb.out)
 have HTd:Hid (Tb w1.drew):=HT
 go_upto_region 3 with fail
 clear x0 x1 x2 x3 x4 x5
 obtain ⟨x0,x1,x2,x3,x4,x5⟩:=cells6 bx.out
 go_region_with (first
  | (go_at_call 304;(with_reducible refine (P.out _).mono ?_;rintro e w6 ⟨B,rfl,hc,h1'⟩;have hl:=held_look hc.own law Tryz.underlying331 (zf _) (keyl (by decide)) (three_3 fnJ fnZ fnP).1;simp only [fnP] at hl;obtain ⟨y0,y1,y2,y3,y4,y5⟩:=cells6 (Bx.below bxd.out h1');have hbf:=hide (bel_next hbd.out h1');have HTf:=hide (HTd.out.below h1');clear h1' hc))
  | (with_reducible refine (F.out _ HTf.out).mono ?_;rintro e w7 ⟨rfl,h1'⟩;replace hbf:=hide (bel_next hbf.out h1');clear h1'))
 all_goals
  go_wp2
  go_ret
  exact ⟨rfl,hbf.out⟩
theorem Day {K D M Wk Wd T:Int} (y:Int) (w:World) (hT:Tb w) (hv:RdOk K D M Wk Wd T) (h0:-600000000001≤y) (h1:y≤600000000001) :
 Calls Tryz.prog 295 #[vrd K D M Wk Wd T,.int .i64 y] w fun e w'=>e=.returned (.int .i64 (rday K D M Wk Wd y))∧Below w.heap.size w w':=by
 obtain ⟨_,_,⟨rfl,h2,h3,_⟩ | ⟨rfl,h2,h3,_⟩ | ⟨rfl,_,h2,h3,h4,h5,h6,h7⟩⟩:=id hv
 ·exact Day1 1 D M Wk Wd T y w hT rfl hv h0 h1 h2 h3
 ·exact Day2 2 D M Wk Wd T y w hT rfl hv h0 h1 h2 (by omega)
 ·exact Day3 3 D M Wk Wd T y w hT rfl hv h0 h1 h2 h3 h4 h5 h6 h7
end rd_
theorem Bx.store7 {w:World} {g:Nat} {a b c d e f k a' b' c' d' e' f' k':Value} (h:Bx w g [a',b',c',d',e',f',k']) :
 Bx (((((((w.setCell ⟨g,0,none⟩ a).setCell ⟨g,1,none⟩ b).setCell ⟨g,2,none⟩ c).setCell ⟨g,3,none⟩ d).setCell ⟨g,4,none⟩ e).setCell ⟨g,5,none⟩ f).setCell ⟨g,6,none⟩ k) g [a,b,c,d,e,f,k] :=
 ((((((h.set 0 a (by simp)).set 1 b (by simp)).set 2 c (by simp)).set 3 d (by simp)).set 4 e (by simp)).set 5 f (by simp)).set 6 k (by simp)
theorem bl_set7 {w0 w:World} {a b c d e f k:Value} (h:Below w0.heap.size w0 w) {g:Nat} (hg:w0.heap.size≤g) :
 Below w0.heap.size w0 (((((((w.setCell ⟨g,0,none⟩ a).setCell ⟨g,1,none⟩ b).setCell ⟨g,2,none⟩ c).setCell ⟨g,3,none⟩ d).setCell ⟨g,4,none⟩ e).setCell ⟨g,5,none⟩ f).setCell ⟨g,6,none⟩ k) :=
 bl_set (bl_set (bl_set (bl_set (bl_set (bl_set (bl_set h hg _) hg _) hg _) hg _) hg _) hg _) hg _
namespace dt_
theorem Split_ (t:Int) (w:World) (h0:-9223372036854775808≤t) (h1:t<9223372036854775808) :
 Calls Tryz.prog 266 #[.int .i64 t] w fun e w'=>e=.returned (.tuple #[.int .i64 (t / 86400),.int .i64 (t % 86400)])∧w=w':=by
 by_cases hp:0≤t
 ·go_enter Tryz.func266,Tryz.ntmps266
  go_wp2
  go_ret2
  exact ⟨ret2i (by omega) rfl,rfl⟩
 ·obtain ⟨z,hz⟩:∃ z:Nat,t=-(z:Int):=⟨(-t).toNat,by omega⟩
  have hzb:(z:Int)≤9223372036854775808:=by omega
  have e1:t.tmod 86400=-((z:Int) % 86400):=by rw [hz,Int.neg_tmod,Int.tmod_eq_emod_of_nonneg (by omega)]
  have e2:t.tdiv 86400=-((z:Int) / 86400):=by rw [hz,Int.neg_tdiv,Int.tdiv_eq_ediv_of_nonneg (by omega)]
  rcases (show 0<(z:Int) % 86400∨(z:Int) % 86400=0 by omega) with hz2 | hz2
  ·have Z:=hide hz
   clear hz
   go_enter Tryz.func266,Tryz.ntmps266
   go_wp2
   go_ret2
   exact ⟨ret2i (by have:=Z.out;omega) (by have:=Z.out;omega),rfl⟩
  ·rw [hz2,Int.neg_zero] at e1
   have Z:=hide (And.intro hz hz2)
   clear hz hz2
   go_enter Tryz.func266,Tryz.ntmps266
   go_wp2
   go_ret2
   exact ⟨ret2i (by have:=Z.out;omega) (by have:=Z.out;omega),rfl⟩
theorem compose_ (n s Y M D:Int) (w:World) (hT:Tb w) (h0:loDay≤n) (h1:n≤hiDay) (hs0:0≤s) (hs1:s<86400) (hd:IsDate n Y M D) :
 Calls Tryz.prog 284 #[.int .i64 n,.int .i64 s] w fun e w'=>e=.returned (vdt Y M D (s / 3600) (s % 3600 / 60) (s % 60) ((n+4) % 7))∧Below w.heap.size w w':=by
 have C1:=hide (fun w hT=>cv_.Date n Y M D w hT h0 h1 hd)
 have C2:=hide (fun w hT=>cv_.Weekday n w hT h0 h1)
 have hm:Hid (s / 60 % 60=s % 3600 / 60):=hide (by omega)
 clear h0 h1 hd
 obtain ⟨wd,hwd⟩:∃ x,x=(n+4) % 7:=⟨_,rfl⟩
 rw [← hwd] at C2 ⊢
 clear hwd
 have hb:=hide (bl_new w (.cells #[.int .i64 0,.int .i64 0,.int .i64 0,.int .i64 0,.int .i64 0,.int .i64 0,.int .i64 0] 153))
 have HT:=hide (hT.below hb.out)
 have bx:=hide (Bx.new w [.int .i64 0,.int .i64 0,.int .i64 0,.int .i64 0,.int .i64 0,.int .i64 0,.int .i64 0] 153)
 clear hT
 go_enter Tryz.func284,Tryz.ntmps284
 go_wp2_with fail
 refine (C1.out _ HT.out).mono ?_
 rintro e w1 ⟨rfl,h1⟩
 replace HT:=hide (HT.out.below h1)
 replace hb:=hide (bel_next hb.out h1)
 replace bx:=hide (bx.out.below h1)
 clear h1
 go_wp2_with fail
 refine (C2.out _ HT.out).mono ?_
 rintro e w2 ⟨rfl,h1⟩
 replace HT:=hide (HT.out.below h1)
 replace hb:=hide (bel_next hb.out h1)
 replace bx:=hide (bx.out.below h1)
 clear h1
 obtain ⟨x0,x1,x2,x3,x4,x5,x6⟩:=cells7 bx.out
 have hlt:=bx.out.lt
 have hfr:=bx.out.fr
 go_wp2
 obtain ⟨y0,y1,y2,y3,y4,y5,y6⟩:=cells7 (bx.out.store7 (a:=.int .i64 Y) (b:=.int .i64 M) (c:=.int .i64 D) (d:=.int .i64 (s / 3600)) (e:=.int .i64 (s / 60 % 60)) (f:=.int .i64 (s % 60)) (k:=.int .i64 wd))
 refine bodyPost_ret (v:=vdt Y M D (s / 3600) (s / 60 % 60) (s % 60) wd) (by simp [results,Tryz.results284,go_sem,vdt,y0,y1,y2,y3,y4,y5,y6]) rfl ⟨by rw [hm.out],bl_set7 hb.out (Nat.le_refl _)⟩
theorem Of (t Y M D:Int) (w:World) (hT:Tb w) (h0:-9223372036854775808≤t) (h1:t<9223372036854775808) (hd:IsDate (t / 86400) Y M D) :
 Calls Tryz.prog 267 #[.int .i64 t] w fun e w'=>e=.returned (vof t Y M D)∧Below w.heap.size w w':=by
 have C1:=hide (fun w=>Split_ t w h0 h1)
 have C2:=hide (fun w hT=>compose_ (t / 86400) (t % 86400) Y M D w hT (by unfold loDay ystart;omega) (by unfold hiDay ystart;omega) (by omega) (by omega) hd)
 unfold vof
 clear hd
 unfold vdt at *
 generalize t / 86400=n at *
 generalize t % 86400=s at *
 generalize s / 3600=s1 at *
 generalize s % 3600 / 60=s2 at *
 generalize s % 60=s3 at *
 generalize (n+4) % 7=s4 at *
 have hb:=hide (bl_new w (.cells #[.int .i64 0,.int .i64 0,.int .i64 0,.int .i64 0,.int .i64 0,.int .i64 0,.int .i64 0] 153))
 have HT:=hide (hT.below hb.out)
 have bx:=hide (Bx.new w [.int .i64 0,.int .i64 0,.int .i64 0,.int .i64 0,.int .i64 0,.int .i64 0,.int .i64 0] 153)
 clear hT
 go_enter Tryz.func267,Tryz.ntmps267
 go_wp2_with fail
 refine (C1.out _).mono ?_
 rintro e w1 ⟨rfl,rfl⟩
 go_wp2_with fail
 refine (C2.out _ HT.out).mono ?_
 rintro e w2 ⟨rfl,h1⟩
 replace HT:=hide (HT.out.below h1)
 replace hb:=hide (bel_next hb.out h1)
 replace bx:=hide (bx.out.below h1)
 clear h1
 obtain ⟨x0,x1,x2,x3,x4,x5,x6⟩:=cells7 bx.out
 have hlt:=bx.out.lt
 have hfr:=bx.out.fr
 go_wp2
 obtain ⟨y0,y1,y2,y3,y4,y5,y6⟩:=cells7 (bx.out.store7 (a:=.int .i64 Y) (b:=.int .i64 M) (c:=.int .i64 D) (d:=.int .i64 s1) (e:=.int .i64 s2) (f:=.int .i64 s3) (k:=.int .i64 s4))
 refine bodyPost_ret (v:=vdt Y M D s1 s2 s3 s4) (by simp [results,Tryz.results267,go_sem,vdt,y0,y1,y2,y3,y4,y5,y6]) rfl ⟨rfl,bl_set7 hb.out (Nat.le_refl _)⟩
theorem YearOf (t Y M D:Int) (w:World) (hT:Tb w) (h0:-9223372036854775808≤t) (h1:t<9223372036854775808) (hd:IsDate (t / 86400) Y M D) :
 Calls Tryz.prog 244 #[.int .i64 t] w fun e w'=>e=.returned (.int .i64 Y)∧Below w.heap.size w w':=by
 have C1:=hide (Of t Y M D w hT h0 h1 hd)
 unfold vof vdt at C1
 clear hd
 generalize t % 86400 / 3600=s1 at *
 generalize t % 86400 % 3600 / 60=s2 at *
 generalize t % 86400 % 60=s3 at *
 generalize (t / 86400+4) % 7=s4 at *
 have hfld:∀ w:World,(Instr.field 153 (.agg #[.int .i64 Y,.int .i64 M,.int .i64 D,.int .i64 s1,.int .i64 s2,.int .i64 s3,.int .i64 s4]) 0).run Tryz.prog w=.ok (.int .i64 Y) w:=fun _=>rfl
 go_enter Tryz.func244,Tryz.ntmps244
 go_wp2_with fail
 refine (C1.out).mono ?_
 rintro e w1 ⟨rfl,h1⟩
 have hb:=hide h1
 clear h1
 go_wp2
 go_ret
 exact ⟨rfl,hb.out⟩
end dt_
def lastSt (pre:List (Int × Bool)):Bool:=(pre.getLast?.map (·.2)).getD false
theorem lastSt_snoc (pre:List (Int × Bool)) (x:Int × Bool):lastSt (pre++[x])=x.2:=by simp [lastSt]
inductive Mg (st en:RD) (so dof lo hi:Int):List (Int × Bool)→Int→Int→Prop
 | nil:Mg st en so dof lo hi [] lo lo
 | a {pre ys ye}:Mg st en so dof lo hi pre ys ye→ys≤hi→ye≤hi→chI st so ys<chI en dof ye→Mg st en so dof lo hi (pre++[(chI st so ys,true)]) (ys+1) ye
 | ab {pre ys ye}:Mg st en so dof lo hi pre ys ye→ys≤hi→ye≤hi→chI st so ys=chI en dof ye→Mg st en so dof lo hi (pre++[(chI st so ys,true)]) (ys+1) (ye+1)
 | b {pre ys ye}:Mg st en so dof lo hi pre ys ye→ys≤hi→ye≤hi→chI en dof ye<chI st so ys→Mg st en so dof lo hi (pre++[(chI en dof ye,false)]) ys (ye+1)
structure MgI (st en:RD) (so dof lo hi:Int) (pre:List (Int × Bool)) (ys ye:Int):Prop where
 l1:lo≤ys
 l2:lo≤ye
 h1:ys≤max lo (hi+1)
 h2:ye≤max lo (hi+1)
 c1:lo<ye→chI en dof (ye - 1)<chI st so ys
 c2:lo<ys→chI st so (ys - 1)<chI en dof ye
 s:lastSt pre=true ↔ lo<ys∧(ye=lo∨chI en dof (ye - 1)≤chI st so (ys - 1))
 m1:lo<ys→∃ x ∈ pre,x.1=chI st so (ys - 1)
 m2:lo<ye→∃ x ∈ pre,x.1=chI en dof (ye - 1)
section
variable {st en:RD} {so dof lo hi:Int} {pre:List (Int × Bool)} {ys ye:Int}
theorem Mg.inv (hs:rdOk st) (he:rdOk en) (h:Mg st en so dof lo hi pre ys ye):MgI st en so dof lo hi pre ys ye:=by
 induction h with
 | nil=>exact ⟨by omega,by omega,by omega,by omega,by omega,by omega,by simp [lastSt],by omega,by omega⟩
 | a hm h1 h2 hc ih =>
   rename_i pre ys ye
   have:=chI_step hs so ys
   have l1:=ih.l1
   have l2:=ih.l2
   have e:ys+1 - 1=ys:=by omega
   refine ⟨by omega,by omega,by omega,by omega,fun hl=>?_,fun _=>by rw [e];exact hc,?_,fun _=>⟨(chI st so ys,true),by simp,by rw [e]⟩,fun hl=>?_⟩
   ·have:=ih.c1 hl;omega
   ·rw [lastSt_snoc,e]
    refine ⟨fun _=>⟨by omega,?_⟩,fun _=>rfl⟩
    by_cases hl:ye=lo
    ·exact .inl hl
    ·have:=ih.c1 (by omega);exact .inr (by omega)
   ·obtain ⟨x,hx,hv⟩:=ih.m2 hl
    exact ⟨x,by simp [hx],hv⟩
 | ab hm h1 h2 hc ih =>
   rename_i pre ys ye
   have:=chI_step hs so ys
   have:=chI_step he dof ye
   have l1:=ih.l1
   have l2:=ih.l2
   have e:ys+1 - 1=ys:=by omega
   have e2:ye+1 - 1=ye:=by omega
   refine ⟨by omega,by omega,by omega,by omega,fun hl=>by rw [e2];omega,fun _=>by rw [e];omega,?_,fun _=>⟨(chI st so ys,true),by simp,by rw [e]⟩,fun _=>⟨(chI st so ys,true),by simp,by rw [e2,← hc]⟩⟩
   rw [lastSt_snoc,e,e2]
   exact ⟨fun _=>⟨by omega,.inr (by omega)⟩,fun _=>rfl⟩
 | b hm h1 h2 hc ih =>
   rename_i pre ys ye
   have:=chI_step he dof ye
   have l1:=ih.l1
   have l2:=ih.l2
   have e2:ye+1 - 1=ye:=by omega
   refine ⟨by omega,by omega,by omega,by omega,fun hl=>by rw [e2];omega,fun hl=>?_,?_,fun hl=>?_,fun _=>⟨(chI en dof ye,false),by simp,by rw [e2]⟩⟩
   ·have:=ih.c2 hl;omega
   ·rw [lastSt_snoc,e2]
    refine ⟨fun h=>(by cases h),fun ⟨h1,h2⟩=>?_⟩
    have:=ih.c2 h1
    omega
   ·obtain ⟨x,hx,hv⟩:=ih.m1 hl
    exact ⟨x,by simp [hx],hv⟩
theorem Mg.back {x:Int × Bool} {y z:Int} (h:Mg st en so dof lo hi (pre++[x]) y z):∃ ys ye,Mg st en so dof lo hi pre ys ye∧x.1≤chI st so ys∧x.1≤chI en dof ye ∧
 ((x=(chI st so ys,true)∧y=ys+1∧z=ye∧chI st so ys<chI en dof ye)∨(x=(chI st so ys,true)∧y=ys+1∧z=ye+1∧chI st so ys=chI en dof ye)∨(x=(chI en dof ye,false)∧y=ys∧z=ye+1∧chI en dof ye<chI st so ys)):=by
 generalize hq:pre++[x]=q at h
 cases h with
 | nil=>simp at hq
 | a hm h1 h2 hc =>
   obtain ⟨rfl,hx⟩:=List.append_inj' hq rfl
   cases hx
   exact ⟨_,_,hm,by simp,by simp;omega,.inl ⟨rfl,rfl,rfl,hc⟩⟩
 | ab hm h1 h2 hc =>
   obtain ⟨rfl,hx⟩:=List.append_inj' hq rfl
   cases hx
   exact ⟨_,_,hm,by simp,by simp;omega,.inr (.inl ⟨rfl,rfl,rfl,hc⟩)⟩
 | b hm h1 h2 hc =>
   obtain ⟨rfl,hx⟩:=List.append_inj' hq rfl
   cases hx
   exact ⟨_,_,hm,by simp;omega,by simp,.inr (.inr ⟨rfl,rfl,rfl,hc⟩)⟩
theorem Mg.on (hs:rdOk st) (he:rdOk en) (h:Mg st en so dof lo hi pre ys ye) {u:Int} (hy:lo<ys) (hz:lo<ye) (a1:chI st so (ys - 1)≤u) (a2:u<chI st so ys) (b1:chI en dof (ye - 1)≤u) (b2:u<chI en dof ye) :
 onS st en so dof u ↔ lastSt pre=true:=by
 have hi:=h.inv hs he
 have e1:ys - 1+1=ys:=by omega
 have e2:ye - 1+1=ye:=by omega
 rw [onS_iff hs he a1 (by rw [e1];exact a2) b1 (by rw [e2];exact b2),hi.s]
 omega
end
theorem chI_early {d:RD} (h:rdOk d) {o t Y:Int} (ho:-89999≤o∧o≤89999) (t0:ystart Y * 86400≤t):chI d o (Y - 2)≤t:=by
 have b:=chI_bd h ho (Y - 2)
 have:=ystart_gap (show Y - 2+1<Y by omega)
 omega
theorem chI_late {d:RD} (h:rdOk d) {o t Y:Int} (ho:-89999≤o∧o≤89999) (t1:t<ystart (Y+1) * 86400):t<chI d o (Y+2):=by
 have b:=chI_bd h ho (Y+2)
 have:=ystart_gap (show Y+1<Y+2 by omega)
 omega
section
variable {st en:RD} {so dof t Y:Int} {pre:List (Int × Bool)}
theorem mg_day (hs:rdOk st) (he:rdOk en) (so0:-89999≤so∧so≤89999) (do0:-89999≤dof∧dof≤89999) (t0:ystart Y * 86400≤t) {hi y z:Int} {x:Int × Bool}
 (h:Mg st en so dof (Y - 2) hi (pre++[x]) y z) (hp:∀ c ∈ pre,c.1≤t) (hx:t<x.1):onS st en so dof t ↔ lastSt pre=true:=by
 obtain ⟨ys,ye,hm,x1,x2,_⟩:=h.back
 have iv:=hm.inv hs he
 have e1:=chI_early hs so0 t0
 have e2:=chI_early he do0 t0
 have l1:Y - 2<ys:=by
  have:=iv.l1
  by_cases hc:ys=Y - 2
  ·rw [hc] at x1;omega
  ·omega
 have l2:Y - 2<ye:=by
  have:=iv.l2
  by_cases hc:ye=Y - 2
  ·rw [hc] at x2;omega
  ·omega
 obtain ⟨p,hp1,hp2⟩:=iv.m1 l1
 obtain ⟨q,hq1,hq2⟩:=iv.m2 l2
 have:=hp p hp1
 have:=hp q hq1
 exact hm.on hs he l1 l2 (by omega) (by omega) (by omega) (by omega)
theorem mg_day_end (hs:rdOk st) (he:rdOk en) (so0:-89999≤so∧so≤89999) (do0:-89999≤dof∧dof≤89999) (t1:t<ystart (Y+1) * 86400) {y z:Int}
 (h:Mg st en so dof (Y - 2) (Y+2) pre y z) (hd:Y+2<y∨Y+2<z) (hp:∀ c ∈ pre,c.1≤t):False:=by
 have iv:=h.inv hs he
 have h1:=iv.h1
 have h2:=iv.h2
 rcases hd with hd | hd
 ·obtain ⟨p,hp1,hp2⟩:=iv.m1 (by omega)
  have:=hp p hp1
  have:=chI_late hs so0 t1
  rw [show y - 1=Y+2 by omega] at hp2
  omega
 ·obtain ⟨p,hp1,hp2⟩:=iv.m2 (by omega)
  have:=hp p hp1
  have:=chI_late he do0 t1
  rw [show z - 1=Y+2 by omega] at hp2
  omega
inductive Kp (t last:Int):List (Int × Bool)→Prop
 | nil:Kp t last []
 | snoc {pre x}:Kp t last pre→x.1≤last→(t<x.1→x.2=lastSt pre)→Kp t last (pre++[x])
theorem Kp.back {last:Int} {x:Int × Bool} (h:Kp t last (pre++[x])):Kp t last pre∧x.1≤last∧(t<x.1→x.2=lastSt pre):=by
 generalize hq:pre++[x]=q at h
 cases h with
 | nil=>simp at hq
 | snoc h1 h2 h3 =>
   obtain ⟨rfl,hx⟩:=List.append_inj' hq rfl
   cases hx
   exact ⟨h1,h2,h3⟩
theorem Kp.all {last:Int} (h:Kp t last pre):∀ c ∈ pre,c.1≤last:=by
 induction h with
 | nil=>simp
 | snoc h1 h2 h3 ih =>
   intro c hc
   rcases List.mem_append.1 hc with hc | hc
   ·exact ih c hc
   ·simp at hc;subst hc;exact h2
end
end Go.Proofs.YtpapfpcehlhgeaaGreatDoor
