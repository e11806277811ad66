/-
  Texts of mine in one file: Lp, In, VdA. Their conditions stand in the theorems.
-/
import Derived.Test.YtpapfpcehlhgeaaGreatDoorE05
import Derived.Test.YtpapfpcehlhgeaaGreatDoorE01
import Derived.Test.YtpapfpcehlhgeaaGreatDoorE03
import Derived.Test.YtpapfpcehlhgeaaGreatDoorE04
import Derived.Deep.RegionHeld3
import Derived.Deep.DeepCutAuto
import Derived.Deep.RegionLaw
import Derived.Laws.EntriesVeiled
import Derived.Test.YtpapfpcehlhgeaaGreatDoorRows
import Derived.Lib.LaidTab
import Derived.MakeChecks
import Derived.LaidHandle
import Derived.Test.YtpapfpcehlhgeaaGreatDoorE02
namespace Go.Proofs.YtpapfpcehlhgeaaGreatDoor
set_option linter.unusedVariables false
set_option linter.unusedSimpArgs false
set_option maxRecDepth 100000
set_option maxHeartbeats 16000000
open Go.ChangeShapes Go.WideShapes Go.ChangeAt Go.RowKit
namespace lp_
theorem enters {P:Program} {f:FuncId} {fn:Func} (hf:P.funcs[f]?=some fn) (hname:(fn.name == "runtime.NumGoroutine")=false) (hb:fn.body.isSome=true) (args:Array Value) (w:World):(callFunc f args).run P w=.ok (.enter f args) w:=by
 have h1:fn.name≠"runtime.NumGoroutine":=by simpa using hname
 obtain ⟨c,hc⟩:=Option.isSome_iff_exists.1 hb
 simp [callFunc,hf,h1,hc]
theorem recordSize (K:Int) (w:World) (h:K=4∨K=8):Calls Tryz.prog 155 #[.int .i64 K] w fun e w'=>e=.returned (.tuple #[.int .i64 (K+4),.bool true])∧w=w':=by
 rcases h with rfl | rfl
 all_goals
  go_enter Tryz.func155,Tryz.ntmps155
  go_wp2
  go_ret2
  exact ⟨rfl,rfl⟩
theorem Decode (A:Option Addr) (n c m:Nat) (l:List Int) (k:Nat) (K:Int) (w:World) (hK:K=(k:Int)) (hk:k=4∨k=8) (hn:n≤100000) (hm:n=m * (k+4)) (hA:A=none→n=0∧c=0) (hc:n≤c) (hcm:c≤9223372036854775807) (hr:Rd w A n (l.map (Value.int .u8))) (hl:Bytes l) :
 Calls Tryz.prog 164 #[.slice A n c,.int .i64 K] w fun e w'=>∃ A' c',e=.returned (.slice A' m c')∧Ok 2 w' w.heap.size 113 A' m c' (lcs (dLP k l m))∧Below w.heap.size w w':=by
 subst hK
 have hlen:l.length=n:=by have:=hr.len;simpa using this
 obtain ⟨s,hs⟩:∃ s,s=k+4:=⟨_,rfl⟩
 rw [← hs] at hm
 have hk8:k≤8:=by omega
 have hk1:1≤k:=by omega
 have hsz:((s:Int) == 0)=false:=by simp;omega
 have hs1:1≤s:=by omega
 have hq:(n:Int).tdiv (s:Int)=(m:Int):=by
  rw [hm,Int.natCast_mul,Int.mul_tdiv_cancel _ (by omega)]
 have mn:m≤n:=by rw [hm];exact Nat.le_mul_of_pos_right m (by omega)
 have R:=hide (fun w=>recordSize (k:Int) w (by omega))
 rw [show (k:Int)+4=(s:Int) by omega] at R
 have I:=hide (fun (q:Nat) (w:World) (h1:(q:Int)+k≤n) (h2:Rd w A n (l.map (Value.int .u8)))=>be_.Int_yes A n c l q k w (by omega) (by omega) (by omega) h1 h2 hl)
 have I4:=hide (fun (q:Nat) (w:World) (h1:(q:Int)+4≤n) (h2:Rd w A n (l.map (Value.int .u8)))=>be_.Int_yes A n c l q 4 w (by omega) (by omega) (by omega) h1 h2 hl)
 have HS:=hide hs
 have HM:=hide hm
 have HD:=hide (fun (q:Nat) (h:q * (k+4)+(k+4)≤l.length)=>dL_ok hk l hl q h)
 have HL:=hide hlen
 clear hlen hl hk hm hs
 have im:IntKind.i64.wrap (m:Int)=(m:Int):=by rw [IntKind.wrap_i64];omega
 go_enter Tryz.func164,Tryz.ntmps164
 go_wp2_with (first
  | (go_at_call 155;refine (R.out _).mono ?_;rintro e w' ⟨rfl,rfl⟩)
  | (refine mkO (α:=LP) (s:=2) (by_:=16) (n:=m) lc (0,0) lc_len (by decide) Tryz.underlying25 (.agg #[.int .i64 0,.int .i32 0]) (by kernel_rfl) rfl (Below.refl w.heap.size _) (Nat.le_refl _) (Nat.le_refl _) rfl (.tmp 23) (.tmp 23) rfl .i64 .i64 _ _ rfl rfl rfl rfl (by omega) (by simp [maxLen];omega) ?_;intro w1 ho1 hb1))
 have h0:(List.replicate m (0,0)).flatMap lc=lcs (rowLP k l m 0):=by simp [rowLP,dLP,lcs]
 rw [h0] at ho1
 clear h0
 go_loopw [27] (fun i wr=>∃ (q:Nat),q≤m∧i=.int .i64 (q:Nat)∧Hid (Ok 2 wr w.heap.size 113 (some ⟨w.heap.size,0,none⟩) m m (lcs (rowLP k l m q)))∧Hid (Below w.heap.size w wr)) (fun i _=>m - (intOf i).toNat)
 case atStart=>exact ⟨0,by omega,rfl,hide ho1,hide hb1⟩
 case round =>
  clear ho1 hb1
  obtain ⟨q,hqm,rfl,ho,hw⟩:=hrel
  by_cases hlt:q<m
  ·obtain ⟨P,hP⟩:∃ P:Nat,P=q * s:=⟨_,rfl⟩
   have hPn:P+s≤n:=by
    have:=Nat.mul_le_mul_right s (show q+1≤m by omega)
    rw [Nat.add_mul,Nat.one_mul,← hP,← HM.out] at this
    exact this
   obtain ⟨P2,hP2⟩:∃ P2:Nat,P2=P+k:=⟨_,rfl⟩
   have hPn2:P2+4≤n:=by have:=HS.out;omega
   have i1:IntKind.i64.wrap ((q:Int) * (s:Int))=(P:Int):=by rw [← Int.natCast_mul,← hP,IntKind.wrap_i64];omega
   have i2:IntKind.i64.wrap ((P:Int)+(k:Int))=(P2:Int):=by rw [IntKind.wrap_i64];omega
   have hd:=(HD.out q (by rw [HL.out,← HS.out,← hP];exact hPn)).1
   have hset:=hide (rowLP_set k l hlt)
   have hat:=hide (rowLP_at k l hlt)
   have hx:=hide (show dL k l q=(sgn k (uval (fld l P k)),sgn 4 (uval (fld l P2 4))) by unfold dL;rw [← HS.out,← hP,← hP2])
   have C:=hide (I.out P wr (by omega) (hr.below hw.out))
   have C4:=hide (I4.out P2 wr (by omega) (hr.below hw.out))
   rw [Int.toNat_natCast,Int.toNat_natCast] at C
   rw [Int.toNat_natCast,show (4:Int).toNat=4 from rfl] at C4
   rw [hx.out] at hd hset
   generalize sgn k (uval (fld l P k))=x at *
   generalize sgn 4 (uval (fld l P2 4))=y at *
   obtain ⟨_,_,y0,y1⟩:=hd
   dsimp only at y0 y1
   have hcv:∀ w:World,(convert 2 21 (.int .i64 y)).run Tryz.prog w=.ok (.int .i32 y) w:=fun w=>by simp [go_sem];rw [IntKind.wrap_i32];omega
   obtain ⟨g0,g1⟩:=lcs_get hat.out
   have p0:=ho.out.cell (q * 2) (by omega)
   have p1:=ho.out.cell (q * 2+1) (by omega)
   rw [g0] at p0
   rw [g1] at p1
   have z0:=ho.out.frozen (q * 2)
   have z1:=ho.out.frozen (q * 2+1)
   have hst:=(ho.out.set (q * 2) (.int .i64 x)).set (q * 2+1) (.int .i32 y)
   rw [lcs_put (x,y),hset.out] at hst
   have hbs:=hide (bl_set (bl_set (g:=w.heap.size) (o:=q * 2) hw.out (Nat.le_refl _) (.int .i64 x)) (g:=w.heap.size) (o:=q * 2+1) (Nat.le_refl _) (.int .i32 y))
   replace hst:=hide hst
   clear hP hP2 ho hw hset hat g0 g1 hx y0 y1
   go_wp2_with fail
   refine C.out.mono ?_
   rintro e w1 ⟨rfl,rfl⟩
   go_wp2_with fail
   refine C4.out.mono ?_
   rintro e w1 ⟨rfl,rfl⟩
   go_wp2
   go_roundw
   case rel=>exact ⟨q+1,by omega,by go_num,hst,hbs⟩
   case measure=>simp [intOf];omega
  ·obtain rfl:q=m:=by omega
   have e0:rowLP k l q q=dLP k l q:=by simp [rowLP]
   have:=ho.out
   rw [e0] at this
   go_wp2
   go_ret
   exact ⟨_,_,rfl,this,hw.out⟩
theorem Encode (A:Option Addr) (n c m:Nat) (ts:List LP) (k:Nat) (K:Int) (w:World) (hK:K=(k:Int)) (hk:k=4∨k=8) (hn:n≤10000) (hm:m=n * (k+4)) (hA:A=none→n=0∧c=0) (hr:Rk 2 w A n (lcs ts)) (hok:∀ t ∈ ts,lpOk t) :
 Calls Tryz.prog 114 #[.slice A n c,.int .i64 K] w fun e w'=>∃ A' c',e=.returned (.slice A' m c')∧Ow w' w.heap.size 5 A' m c' ((eLP k ts).map (Value.int .u8))∧Below w.heap.size w w':=by
 subst hK
 have hl:ts.length=n:=by have:=hr.len;rw [lcs_len] at this;omega
 obtain ⟨s,hs⟩:∃ s,s=k+4:=⟨_,rfl⟩
 rw [← hs] at hm
 have hk8:k≤8:=by omega
 have hs12:s≤12:=by omega
 have R:=hide (fun w=>recordSize (k:Int) w (by omega))
 rw [show (k:Int)+4=(s:Int) by omega] at R
 have P:=hide (fun v w h4 h5=>be_.Append none 0 0 [] k v w (by omega) (by omega) (Rd.none_ w) h4 h5)
 have P4:=hide (fun v w h4 h5=>be_.Append none 0 0 [] 4 v w (by omega) (by omega) (Rd.none_ w) h4 h5)
 have hmB:m≤120000:=by rw [hm];exact Nat.le_trans (Nat.mul_le_mul hn hs12) (by omega)
 have i0:IntKind.i64.wrap ((n:Int) * (s:Int))=(m:Int):=by rw [show (n:Int) * (s:Int)=(m:Int) by rw [hm,Int.natCast_mul],IntKind.wrap_i64];omega
 have HM:=hide hm
 have HS:=hide hs
 have HL:=hide hl
 have HO:=hide hok
 clear hl hok hk hm hs
 go_enter Tryz.func114,Tryz.ntmps114
 go_wp2_with (first
  | (go_at_call 155;refine (R.out _).mono ?_;rintro e w' ⟨rfl,rfl⟩)
  | (refine mk (n:=0) (k:=m) elU8 (Below.refl w.heap.size _) (Nat.le_refl _) (Nat.le_refl _) rfl (.const (.int .i64 0)) (.tmp 20) rfl .i64 .i64 _ _ rfl rfl rfl rfl (by omega) (by omega) (by simp [maxLen];omega) ?_;intro w1 ho1 hb1))
 go_loopw [7,24] (fun o i wr=>∃ (q Q:Nat) (A':Option Addr) (c':Nat),q≤n∧i=.int .i64 (q:Nat)∧Hid (Q=q * s)∧o=.slice A' Q c'∧Hid (Ow wr w.heap.size 5 A' Q c' ((eLP k (ts.take q)).map (Value.int .u8)))∧Hid (Below w.heap.size w wr)) (fun _ i _=>n - (intOf i).toNat)
 case atStart=>exact ⟨0,0,_,_,by omega,rfl,hide (by simp),rfl,hide ho1,hide hb1⟩
 case round =>
  clear ho1 hb1
  obtain ⟨q,Q,A',c',hq,rfl,hQ,rfl,ho,hw⟩:=hrel
  by_cases hlt:q<n
  ·obtain ⟨ad,⟨a,x⟩,rfl,ht,h0,h1⟩:=(hr.below hw.out).lp hlt
   obtain ⟨z0,z1,z2,z3⟩:=HO.out _ (List.mem_of_getElem? ht)
   dsimp only at h0 h1 z0 z1 z2 z3
   have hst:=hide (eLP_step k ts q _ ht)
   have hu:=u64_bd a
   have hv:=u64_bd x
   have cv1:∀ w:World,(convert 2 101 (.int .i64 a)).run Tryz.prog w=.ok (.int .u64 (u64 a)) w:=fun w=>by simp [go_sem,u64,IntKind.wrap_u64]
   have cv2:∀ w:World,(convert 21 101 (.int .i32 x)).run Tryz.prog w=.ok (.int .u64 (u64 x)) w:=fun w=>by simp [go_sem,u64,IntKind.wrap_u64]
   have hQB:Q≤120000:=by rw [hQ.out];exact Nat.le_trans (Nat.mul_le_mul (Nat.le_of_lt hlt) (Nat.le_refl s)) (Nat.le_trans (Nat.mul_le_mul hn hs12) (by omega))
   have hQ2:=hide (show Q+k+4=(q+1) * s by rw [Nat.add_mul,Nat.one_mul,← hQ.out];have:=HS.out;omega)
   have C:=hide (P.out (u64 a) (wr.alloc (.cells #[.int .i64 a,.int .i32 x] 113)) hu.1 hu.2)
   have bx:=hide (Bx.new wr [.int .i64 a,.int .i32 x] 113)
   have ho2:=hide (ho.out.alloc (.cells #[.int .i64 a,.int .i32 x] 113))
   have hw2:=hide (bl_alloc hw.out (.cells #[.int .i64 a,.int .i32 x] 113))
   have hdj:=hide (show oB A'≠some wr.heap.size from fun h=>by have:=(ho.out.blk h).2;omega)
   clear ht hu ho hw hQ z0 z1 z2 z3
   go_wp2_with fail
   refine C.out.mono ?_
   rintro e w1 ⟨A2,c2,rfl,o2,h2'⟩
   rw [Int.toNat_natCast,Nat.zero_add] at o2 ⊢
   rw [List.nil_append] at o2
   replace bx:=hide (bx.out.below h2')
   have ho3:=hide (ho2.out.below h2')
   have hw3:=hide (bel_next hw2.out h2')
   have hr2:=hide o2.rd
   have hn2:=hide o2.nilcap
   have h1c:=hide (oneCells .u8 (be k (u64 a)))
   clear o2 h2' ho2 hw2 C h0 h1
   go_upto_region 9 with (at_builtin;refine apA elU8 ho3.out hw3.out (Nat.le_refl _) hr2.out (.tmp 28) (.tmp 33) rfl rfl rfl rfl hn2.out h1c.out (by simp [maxLen];omega) (by omega) ?_;intro A3 c3 w3 ho4 hb4 hg4;replace ho4:=hide ho4;replace hb4:=hide hb4)
   replace bx:=hide (hg4.bx bx.out hdj.out)
   clear ho3 hw3 hr2 hn2 h1c hdj hg4
   rw [← List.map_append] at ho4
   have b1:=bx.out.2.1 1 _ rfl
   have C4:=hide (P4.out (u64 x) w3 hv.1 hv.2)
   clear hv
   go_wp2_with fail
   refine C4.out.mono ?_
   rintro e w5 ⟨A5,c5,rfl,o5,h5⟩
   rw [show (4:Int).toNat=4 from rfl,Nat.zero_add] at o5 ⊢
   rw [List.nil_append] at o5
   have ho6:=ho4.out.below h5
   have hw6:=bel_next hb4.out h5
   have hr6:=o5.rd
   have hn6:=o5.nilcap
   have h1d:=hide (oneCells .u8 (be 4 (u64 x)))
   clear o5 h5 ho4 hb4 C4 bx b1
   go_wp2_with (at_builtin;refine apA elU8 ho6 hw6 (Nat.le_refl _) hr6 (.tmp 35) (.tmp 39) rfl rfl rfl rfl hn6 h1d.out (by simp [maxLen];omega) (by omega) ?_;intro A7 c7 w7 ho7 hb7 hg7)
   rw [← List.map_append,← hst.out] at ho7
   replace ho7:=hide ho7
   replace hb7:=hide hb7
   clear hg7 ho6 hw6 hr6 hn6
   go_roundw
   case rel=>exact ⟨q+1,Q+k+4,A7,c7,by omega,by go_num,hQ2,rfl,ho7,hb7⟩
   case measure=>simp [intOf];omega
  ·obtain rfl:q=n:=by omega
   go_wp2
   go_ret
   have:=ho.out
   rw [List.take_of_length_le (by rw [HL.out];omega)] at this
   rw [HM.out,← hQ.out]
   exact ⟨_,_,rfl,this,hw.out⟩
theorem hasExpiration (A:Option Addr) (n c:Nat) (ts:List LP) (w:World) (hn:n≤100000) (hr:Rk 2 w A n (lcs ts)) :
 Calls Tryz.prog 274 #[.slice A n c] w fun e w'=>e=.returned (.bool (exL ts))∧Below w.heap.size w w':=by
 have hl:ts.length=n:=by have:=hr.len;rw [lcs_len] at this;omega
 by_cases h2:2≤n
 ·obtain ⟨ad,t,rfl,ht,f0,f1⟩:=hr.lp (i:=n - 1) (by omega)
  obtain ⟨ad',u,e,hu,g0,g1⟩:=hr.lp (i:=n - 2) (by omega)
  cases e
  have hx:exL ts=decide (t.2=u.2):=by
   unfold exL lr
   rw [hl,decide_eq_true (by omega),Bool.true_and,ht,hu]
   rfl
  rw [hx]
  have i1:IntKind.i64.wrap ((n:Int) - 1)=((n - 1:Nat):Int):=by rw [IntKind.wrap_i64];omega
  have i2:IntKind.i64.wrap ((n:Int) - 2)=((n - 2:Nat):Int):=by rw [IntKind.wrap_i64];omega
  have l1:n - 1<n:=by omega
  have l2:n - 2<n:=by omega
  clear hx ht hu hl hr g0 f0
  generalize n - 1=P at *
  generalize n - 2=p at *
  have d1:decide ((1:Int)<(n:Int))=true:=decide_eq_true (by omega)
  have d2:decide (1<n)=true:=decide_eq_true (by omega)
  have hq:(t.2 == u.2)=decide (t.2=u.2):=rfl
  generalize decide (t.2=u.2)=b at *
  go_enter Tryz.func274,Tryz.ntmps274
  go_wp2
  go_quiet (fail)
  go_wp2
  go_ret
  exact ⟨rfl,bel_drewN (bl_refl _) _⟩
 ·have hx:exL ts=false:=by unfold exL;rw [hl,decide_eq_false h2,Bool.false_and]
  rw [hx]
  have d1:decide ((1:Int)<(n:Int))=false:=decide_eq_false (by omega)
  have d2:decide (1<n)=false:=decide_eq_false (by omega)
  clear hx hl hr
  go_enter Tryz.func274,Tryz.ntmps274
  go_wp2
  go_quiet (fail)
  go_wp2
  go_ret
  exact ⟨rfl,bel_drewN (bl_refl _) _⟩
theorem search_ (F:FuncId) (cb:Array Value) (p:Nat→Bool) (n:Nat) (w:World) (hn:n<4611686018427387904) (hC:∀ args w,(callFunc F args).run Tryz.prog w=.ok (.enter F args) w)
 (hf:∀ i w',i<n→Below w.heap.size w w'→Calls Tryz.prog F (#[.int .i64 (i:Nat)]++cb) w' fun e w''=>e=.returned (.bool (p i))∧Below w'.heap.size w' w'') :
 Calls Tryz.prog 222 #[.int .i64 n,.func (.func F) #[] cb] w fun e w'=>∃ h:Nat,h≤n∧e=.returned (.int .i64 h)∧(h=0∨p (h - 1)=false)∧(h=n∨p h=true)∧Below w.heap.size w w':=by
 have HF:=hide hf
 have HC:=hide hC
 clear hf hC
 go_enter Tryz.func222,Tryz.ntmps222
 go_wp2
 go_loopw [5,6] (fun s5 s6 wr=>∃ lo hi:Nat,s5=.int .i64 lo∧s6=.int .i64 hi∧lo≤hi∧hi≤n∧Hid (lo=0∨p (lo - 1)=false)∧Hid (hi=n∨p hi=true)∧Hid (Below w.heap.size w wr)) (fun s5 s6 _=>(intOf s6 - intOf s5).toNat)
 case atStart=>exact ⟨0,n,rfl,rfl,Nat.zero_le _,Nat.le_refl _,hide (.inl rfl),hide (.inl rfl),hide (bl_refl _)⟩
 case round =>
  obtain ⟨lo,hi,rfl,rfl,hlh,hin,h1,h2,hw⟩:=hrel
  by_cases hlt:lo<hi
  ·have hc:=HF.out ((lo+hi) / 2) wr (by omega) hw.out
   rw [show (((lo+hi) / 2:Nat):Int)=((lo:Int)+(hi:Int)) / 2 by omega] at hc
   cases hp:p ((lo+hi) / 2) <;> rw [hp] at hc
   ·replace hp:=hide hp
    replace hc:=hide hc
    go_wp2_with fail
    rw [HC.out,Oper.upon_enter]
    refine hc.out.mono ?_
    rintro e w1 ⟨rfl,h3⟩
    have hw1:=hide (bel_next hw.out h3)
    clear hw h3 hc
    go_wp2
    go_roundw
    case rel=>exact ⟨(lo+hi) / 2+1,hi,by rw [show ((lo:Int)+(hi:Int)) / 2+1=(((lo+hi) / 2+1:Nat):Int) by omega],rfl,by omega,hin,hide (.inr (by simpa using hp.out)),h2,hw1⟩
    case measure=>simp [intOf];omega
   ·replace hp:=hide hp
    replace hc:=hide hc
    go_wp2_with fail
    rw [HC.out,Oper.upon_enter]
    refine hc.out.mono ?_
    rintro e w1 ⟨rfl,h3⟩
    have hw1:=hide (bel_next hw.out h3)
    clear hw h3 hc
    go_wp2
    go_roundw
    case rel=>exact ⟨lo,(lo+hi) / 2,rfl,by rw [show ((lo:Int)+(hi:Int)) / 2=(((lo+hi) / 2:Nat):Int) by omega],by omega,by omega,h1,hide (.inr hp.out),hw1⟩
    case measure=>simp [intOf];omega
  ·obtain rfl:hi=lo:=by omega
   go_wp2
   go_ret
   exact ⟨hi,hin,rfl,h1.out,h2.out,hw.out⟩
theorem later (ga gt:Nat) (A:Option Addr) (n c:Nat) (ts:List LP) (t:Int) (i:Nat) (w:World) (hi:i<n) (hr:Rk 2 w A n (lcs ts)) (ha:w.cell? ⟨ga,0,none⟩=some (.slice A n c)) (ht:w.cell? ⟨gt,0,none⟩=some (.int .i64 t)) :
 Calls Tryz.prog 223 (#[.int .i64 (i:Nat)]++#[.pointer (some ⟨ga,0,none⟩),.pointer (some ⟨gt,0,none⟩)]) w fun e w'=>e=.returned (.bool (decide (t<la ts i)))∧Below w.heap.size w w':=by
 obtain ⟨ad,x,rfl,hx,f0,f1⟩:=hr.lp hi
 rw [(la_some hx).1]
 clear hr hx f1
 go_enter Tryz.func223,Tryz.ntmps223
 go_wp2
 go_quiet (fail)
 go_wp2
 go_ret
 exact ⟨rfl,bel_drewN (bl_refl _) _⟩
theorem Correction (A:Option Addr) (n c:Nat) (ts:List LP) (t:Int) (w:World) (hv:vL ts true=true) (hn:n≤100000) (hA:A=none→n=0∧c=0) (hr:Rk 2 w A n (lcs ts)) (hok:∀ t ∈ ts,lpOk t) (h0:-9223372036854775808≤t) (h1:t<9223372036854775808) :
 Calls Tryz.prog 192 #[.slice A n c,.int .i64 t] w fun e w'=>e=.returned (.int .i64 (cr ts t))∧Below w.heap.size w w':=by
 have hl:ts.length=n:=by have:=hr.len;rw [lcs_len] at this;omega
 have hcr:=hide (fun (h:Nat) (hh:h≤n) (a:h=0∨decide (t<la ts (h - 1))=false) (b:h=n∨decide (t<la ts h)=true)=>(show cr ts t=if h=0 then 0 else lr ts (h - 1) from cr_cut (by omega)
  (fun i hi=>by
    rcases a with a | a
    ·omega
    ·have:=la_mono hv (show i≤h - 1 by omega) (by omega)
     have:=of_decide_eq_false a
     omega)
  (fun i hi h2=>by
    rcases b with b | b
    ·omega
    ·have:=la_mono hv hi h2
     have:=of_decide_eq_true b
     omega)))
 have HL:=hide hl
 have HO:=hide hok
 obtain ⟨W,hW⟩:∃ W:World,W=(w.alloc (.cells #[.slice A n c] 25)).alloc (.cells #[.int .i64 t] 2):=⟨_,rfl⟩
 have hb0:Below w.heap.size w W:=by rw [hW];exact bl_alloc (bl_new _ _) _
 have ca:W.cell? ⟨w.heap.size,0,none⟩=some (.slice A n c):=by rw [hW];simp
 have ct:W.cell? ⟨w.heap.size+1,0,none⟩=some (.int .i64 t):=by rw [hW];simp
 have hrW:=hr.below hb0
 have C:=hide (search_ 223 #[.pointer (some ⟨w.heap.size,0,none⟩),.pointer (some ⟨w.heap.size+1,0,none⟩)] (fun i=>decide (t<la ts i)) n W (by omega) (enters Tryz.func223 (by kernel_rfl) (by kernel_rfl))
  (fun i w' hi hb=>later w.heap.size (w.heap.size+1) A n c ts t i w' hi (hrW.below hb) (cellE hb ca) (cellE hb ct)))
 rw [hW] at C
 clear hW hrW ca ct hb0 W
 generalize cr ts t=r at *
 clear hv hok hl
 go_enter Tryz.func192,Tryz.ntmps192
 go_wp2_with fail
 refine C.out.mono ?_
 rintro e w1 ⟨h,hh,rfl,ha,hb,h2⟩
 have e1:=hcr.out h hh ha hb
 have hb0:Below w.heap.size w ((w.alloc (.cells #[.slice A n c] 25)).alloc (.cells #[.int .i64 t] 2)):=bl_alloc (bl_new _ _) _
 have ca:((w.alloc (.cells #[.slice A n c] 25)).alloc (.cells #[.int .i64 t] 2)).cell? ⟨w.heap.size,0,none⟩=some (.slice A n c):=by simp
 have ca1:=cellE h2 ca
 have hb1:=hide (bel_next hb0 h2)
 clear C hcr ha hb ca h2 hb0
 by_cases hz:h=0
 ·subst hz
  rw [if_pos rfl] at e1
  subst e1
  go_wp2
  go_ret
  exact ⟨rfl,hb1.out⟩
 ·rw [if_neg hz] at e1
  obtain ⟨ad,x,rfl,hx,f0,f1⟩:=(hr.below hb1.out).lp (i:=h - 1) (by omega)
  rw [(la_some hx).2] at e1
  subst e1
  obtain ⟨_,_,z0,z1⟩:=HO.out _ (List.mem_of_getElem? hx)
  have hcv:∀ w:World,(convert 21 3 (.int .i32 x.2)).run Tryz.prog w=.ok (.int .i64 x.2) w:=fun w=>by simp [go_sem];rw [IntKind.wrap_i64];omega
  have i1:IntKind.i64.wrap ((h:Int) - 1)=((h - 1:Nat):Int):=by rw [IntKind.wrap_i64];omega
  have l1:h - 1<n:=by omega
  have hz':((h:Int) == 0)=false:=by simp;omega
  clear hx f0 z0 z1 hr
  generalize h - 1=P at *
  go_wp2
  go_ret
  exact ⟨rfl,hb1.out⟩
theorem startsLate (A:Option Addr) (n c:Nat) (ts:List LP) (v:Int) (w:World) (h0:0<n) (hr:Rk 2 w A n (lcs ts)) :
 Calls Tryz.prog 254 #[.slice A n c,.int .i64 v] w fun e w'=>e=.returned (.bool (decide (0≤la ts 0)))∧Below w.heap.size w w':=by
 obtain ⟨ad,x,rfl,hx,f0,f1⟩:=hr.lp h0
 rw [(la_some hx).1]
 rw [show ad.add (0 * 2)=ad by simp [Addr.add]] at f0
 clear hr hx f1
 by_cases h:0≤x.1
 all_goals
  first | rw [decide_eq_true h] | rw [decide_eq_false h]
  first | have hd:decide (0≤x.1)=true:=decide_eq_true h | have hd:decide (0≤x.1)=false:=decide_eq_false h
  go_enter Tryz.func254,Tryz.ntmps254
  go_wp2
  go_ret
  exact ⟨rfl,bl_refl _⟩
theorem startsBySecond (A:Option Addr) (n c:Nat) (ts:List LP) (v:Int) (four:Bool) (w:World) (hf:decide (v=4)=four) (h0:0<n) (hr:Rk 2 w A n (lcs ts)) :
 Calls Tryz.prog 256 #[.slice A n c,.int .i64 v] w fun e w'=>e=.returned (.bool (stB ts four))∧Below w.heap.size w w':=by
 obtain ⟨ad,x,rfl,hx,f0,f1⟩:=hr.lp h0
 have e0:=(la_some hx).2
 rw [show ad.add (0 * 2)=ad by simp [Addr.add]] at f1
 unfold stB
 rw [e0]
 clear hr hx f0 e0
 by_cases hv:v=4
 ·subst hv
  rw [decide_eq_true rfl] at hf
  subst hf
  go_enter Tryz.func256,Tryz.ntmps256
  go_wp2
  go_ret
  exact ⟨rfl,bl_refl _⟩
 ·have hv':(v == 4)=false:=by simpa using hv
  rw [decide_eq_false hv] at hf
  subst hf
  obtain ⟨y,hy⟩:∃ y,y=x.2:=⟨_,rfl⟩
  rw [← hy] at f1 ⊢
  clear hy hv
  rcases (show y=1∨y=-1∨((y == 1)=false∧(y == -1)=false∧(false || decide (y=1) || decide (y=-1))=false) by by_cases a:y=1 <;> by_cases b:y=-1 <;> simp [a,b]) with rfl | rfl | ⟨n1,n2,e⟩
  ·go_enter Tryz.func256,Tryz.ntmps256
   go_wp2
   go_ret
   exact ⟨rfl,bl_refl _⟩
  ·go_enter Tryz.func256,Tryz.ntmps256
   go_wp2
   go_ret
   exact ⟨rfl,bl_refl _⟩
  ·rw [e]
   clear e
   go_enter Tryz.func256,Tryz.ntmps256
   go_wp2
   go_ret
   exact ⟨rfl,bl_refl _⟩
theorem isSpaced (A:Option Addr) (n c:Nat) (ts:List LP) (v:Int) (w:World) (h0:0<n) (hn:n≤100000) (hr:Rk 2 w A n (lcs ts)) (hok:∀ t ∈ ts,lpOk t) :
 Calls Tryz.prog 255 #[.slice A n c,.int .i64 v] w fun e w'=>e=.returned (.bool (spB ts n))∧Below w.heap.size w w':=by
 have HO:=hide hok
 obtain ⟨b,hb⟩:∃ b,b=spB ts n:=⟨_,rfl⟩
 rw [← hb]
 replace hb:=hide hb
 clear hok
 go_enter Tryz.func255,Tryz.ntmps255
 go_wp2
 go_loopw [5] (fun i wr=>∃ k:Nat,1≤k∧k≤n∧i=.int .i64 (k:Nat)∧Hid (spB ts k=true)∧Hid (Below w.heap.size w wr)) (fun i _=>n - (intOf i).toNat)
 case atStart=>exact ⟨1,by omega,by omega,rfl,hide (spB_one ts),hide (bl_refl _)⟩
 case round =>
  obtain ⟨k,hk1,hk,rfl,ha,hw⟩:=hrel
  by_cases hlt:k<n
  ·obtain ⟨ad,t,rfl,ht,f0,f1⟩:=(hr.below hw.out).lp (i:=k - 1) (by omega)
   obtain ⟨ad',u,e,hu,g0,g1⟩:=(hr.below hw.out).lp hlt
   cases e
   obtain ⟨x0,x1,_,_⟩:=HO.out _ (List.mem_of_getElem? ht)
   obtain ⟨y0,y1,_,_⟩:=HO.out _ (List.mem_of_getElem? hu)
   have e1:=(la_some ht).1
   have e2:=(la_some hu).1
   have hst:=spB_step ts k (by omega)
   have hno:=hide (fun h=>spB_no (ts:=ts) (i:=k) (n:=n) (by omega) hlt h)
   rw [ha.out,Bool.true_and,e1,e2] at hst
   rw [e1,e2] at hno
   have i1:IntKind.i64.wrap ((k:Int) - 1)=((k - 1:Nat):Int):=by rw [IntKind.wrap_i64];omega
   have l1:k - 1<n:=by omega
   clear e1 e2 ht hu f1 g1 ha
   generalize k - 1=P at *
   generalize t.1=x at *
   generalize u.1=y at *
   have hst':=hide hst
   clear hst
   have cv1:∀ w:World,(convert 2 101 (.int .i64 x)).run Tryz.prog w=.ok (.int .u64 (u64 x)) w:=fun w=>by simp [go_sem,u64,IntKind.wrap_u64]
   have cv2:∀ w:World,(convert 2 101 (.int .i64 y)).run Tryz.prog w=.ok (.int .u64 (u64 y)) w:=fun w=>by simp [go_sem,u64,IntKind.wrap_u64]
   by_cases hle:y≤x
   ·have d1:decide (y≤x)=true:=decide_eq_true hle
    have hf:=hno.out (by omega)
    have e:=hb.out
    rw [hf] at e
    subst e
    clear hf hno hst'
    go_wp2
    go_quiet (fail)
    go_wp2
    go_ret
    exact ⟨rfl,bel_drewN hw.out _⟩
   ·have d1:decide (y≤x)=false:=decide_eq_false hle
    have is:IntKind.u64.wrap (u64 y - u64 x)=y - x:=by rw [IntKind.wrap_u64];unfold u64;omega
    by_cases hlt2:y - x<2419199
    ·have d2:decide (y - x<2419199)=true:=decide_eq_true hlt2
     have hf:=hno.out (by omega)
     have e:=hb.out
     rw [hf] at e
     subst e
     clear hf hno hst'
     generalize y - x=z at *
     go_wp2
     go_quiet (fail)
     go_wp2
     go_ret
     exact ⟨rfl,bel_drewN hw.out _⟩
    ·have d2:decide (y - x<2419199)=false:=decide_eq_false hlt2
     have hs:=hide (show spB ts (k+1)=true by rw [hst'.out];exact decide_eq_true (by omega))
     clear hno hst'
     generalize y - x=z at *
     go_wp2
     go_quiet (fail)
     go_wp2
     go_roundw
     case rel=>exact ⟨k+1,by omega,by omega,by go_num,hs,hide (bel_drewN hw.out _)⟩
     case measure=>simp [intOf];omega
  ·obtain rfl:k=n:=by omega
   have e:=hb.out
   rw [ha.out] at e
   subst e
   go_wp2
   go_ret
   exact ⟨rfl,hw.out⟩
theorem goesBySeconds (A:Option Addr) (n c:Nat) (ts:List LP) (v:Int) (four:Bool) (w:World) (hf:decide (v=4)=four) (h0:0<n) (hn:n≤100000) (hcap:n≤c) (hr:Rk 2 w A n (lcs ts)) (hok:∀ t ∈ ts,lpOk t) :
 Calls Tryz.prog 257 #[.slice A n c,.int .i64 v] w fun e w'=>e=.returned (.bool (gsB ts (gsN ts four)))∧Below w.heap.size w w':=by
 have HO:=hide hok
 have hl:ts.length=n:=by have:=hr.len;rw [lcs_len] at this;omega
 have C:=hide (hasExpiration A n c ts w hn hr)
 have hx2:exL ts=true→2≤n:=fun hx=>by unfold exL at hx;simp at hx;omega
 obtain ⟨N,hN⟩:∃ N,N=gsN ts four:=⟨_,rfl⟩
 have hN2:N=if (four && exL ts)=true then n - 1 else n:=by rw [hN];unfold gsN;rw [hl]
 rw [← hN]
 obtain ⟨b,hb⟩:∃ b,b=gsB ts N:=⟨_,rfl⟩
 rw [← hb]
 replace hb:=hide hb
 obtain ⟨ad,e,hc⟩:=hr.2 (show 0<n by omega)
 subst e
 generalize exL ts=x at *
 have V:(v == 4)=four:=by rw [← hf];rfl
 have hN1:1≤N∧N≤n∧(four=true→x=true→N=n - 1)∧(four=false∨x=false→N=n):=by
  rw [hN2]
  cases four <;> cases x
  all_goals simp at hx2 ⊢
  all_goals omega
 obtain ⟨hN1,hNn,hNy,hNo⟩:=hN1
 have hrN:=hide (fun (i:Nat) (h:i<N)=>hr.lp (i:=i) (by omega))
 clear hok hl hx2 hN hN2 hf hc
 have i0:IntKind.i64.wrap ((n:Int) - 1)=((n - 1:Nat):Int):=by rw [IntKind.wrap_i64];omega
 cases four <;> cases x
 all_goals
  first
  | (obtain rfl:N=n:=hNo (.inl rfl))
  | (obtain rfl:N=n:=hNo (.inr rfl))
  | (obtain e:n - 1=N:=(hNy rfl rfl).symm
     rw [e] at i0)
  clear hNo hNy
  go_enter Tryz.func257,Tryz.ntmps257
  go_wp2_with (go_at_call 274;refine C.out.mono ?_;rintro e w1 ⟨rfl,h1⟩)
 all_goals
  clear i0
  go_loopw [5] (fun i wr=>∃ k:Nat,1≤k∧k≤N∧i=.int .i64 (k:Nat)∧Hid (gsB ts k=true)∧Hid (Below w.heap.size w wr)) (fun i _=>N - (intOf i).toNat)
  case atStart=>exact ⟨1,by omega,by omega,rfl,hide (gsB_one ts),hide (by first | exact h1 | exact bl_refl _)⟩
  case round =>
   try clear h1
   obtain ⟨k,hk1,hk,rfl,ha,hw⟩:=hrel
   by_cases hlt:k<N
   ·obtain ⟨ad0,t,e0,ht,_,f1⟩:=hrN.out (k - 1) (by omega)
    cases e0
    obtain ⟨ad1,u,e1,hu,_,g1⟩:=hrN.out k hlt
    cases e1
    replace f1:=cellE hw.out f1
    replace g1:=cellE hw.out g1
    obtain ⟨_,_,x0,x1⟩:=HO.out _ (List.mem_of_getElem? ht)
    obtain ⟨_,_,y0,y1⟩:=HO.out _ (List.mem_of_getElem? hu)
    have e1:=(la_some ht).2
    have e2:=(la_some hu).2
    have hst:=gsB_step ts k (by omega)
    have hno:=hide (fun h h'=>gsB_no (ts:=ts) (i:=k) (n:=N) (by omega) hlt h h')
    rw [ha.out,Bool.true_and,e1,e2] at hst
    rw [e1,e2] at hno
    have i1:IntKind.i64.wrap ((k:Int) - 1)=((k - 1:Nat):Int):=by rw [IntKind.wrap_i64];omega
    have l1:k - 1<N:=by omega
    clear e1 e2 ht hu ha
    generalize k - 1=P at *
    generalize t.2=x at *
    generalize u.2=y at *
    have hst':=hide hst
    clear hst
    have cv1:∀ w:World,(convert 21 2 (.int .i32 x)).run Tryz.prog w=.ok (.int .i64 x) w:=fun w=>by simp [go_sem];rw [IntKind.wrap_i64];omega
    have cv2:∀ w:World,(convert 21 2 (.int .i32 y)).run Tryz.prog w=.ok (.int .i64 y) w:=fun w=>by simp [go_sem];rw [IntKind.wrap_i64];omega
    obtain ⟨z,hz⟩:∃ z,y - x=z:=⟨_,rfl⟩
    have is:wrap64 (y - x)=z:=by rw [← hz];unfold wrap64;omega
    rw [hz] at hst' hno
    clear hz
    clear x0 x1 y0 y1
    by_cases z1:z=1
    ·have hs:=hide (show gsB ts (k+1)=true by rw [hst'.out,decide_eq_true z1];rfl)
     subst z1
     clear hno hst'
     go_wp2
     go_quiet (fail)
     go_wp2
     go_roundw
     case rel=>exact ⟨k+1,by omega,by omega,by go_num,hs,hide (bel_drewN hw.out _)⟩
     case measure=>simp [intOf];omega
    ·have c1:(z != 1)=true:=by simp [z1]
     by_cases z2:z=-1
     ·have hs:=hide (show gsB ts (k+1)=true by rw [hst'.out,decide_eq_true z2,Bool.or_true])
      subst z2
      clear hno hst'
      go_wp2
      go_quiet (fail)
      go_wp2
      go_roundw
      case rel=>exact ⟨k+1,by omega,by omega,by go_num,hs,hide (bel_drewN hw.out _)⟩
      case measure=>simp [intOf];omega
     ·have c2:(z != -1)=true:=by simp [z2]
      have hf:=hno.out z1 z2
      have e:=hb.out
      rw [hf] at e
      subst e
      clear hf hno hst'
      go_wp2
      go_quiet (fail)
      go_wp2
      go_ret
      exact ⟨rfl,bel_drewN hw.out _⟩
   ·obtain rfl:k=N:=by omega
    have e:=hb.out
    rw [ha.out] at e
    subst e
    go_wp2
    go_ret
    exact ⟨rfl,hw.out⟩
def RuleAt (cells:List Value) (i:Nat) (F:FuncId):Prop:=∃ s:ByteArray,cells[i * 2]?=some (.string s)∧cells[i * 2+1]?=some (.func (.func F) #[] #[])∧s.toList.isEmpty=false
theorem rules (w:World):Calls Tryz.prog 237 #[] w fun e w'=>∃ ad cells,e=.returned (.slice (some ad) 4 4)∧Rk 2 w' (some ad) 4 cells∧RuleAt cells 0 254∧RuleAt cells 1 255∧RuleAt cells 2 256∧RuleAt cells 3 257∧Below w.heap.size w w':=by
 go_enter Tryz.func237,Tryz.ntmps237
 go_wp2
 go_ret
 refine ⟨_,_,rfl,(Ok.lit 2 w 281 [_,_,_,_,_,_,_,_] 4 rfl (by simp [maxLen])).rd,⟨_,rfl,rfl,?_⟩,⟨_,rfl,rfl,?_⟩,⟨_,rfl,rfl,?_⟩,⟨_,rfl,rfl,?_⟩,bl_new _ _⟩
 all_goals (rw [ByteArray.toList_eq];rfl)
theorem broken (A:Option Addr) (n c:Nat) (ts:List LP) (v:Int) (four:Bool) (w:World) (hf:decide (v=4)=four) (hn:n≤100000) (hcap:n≤c) (hr:Rk 2 w A n (lcs ts)) (hok:∀ t ∈ ts,lpOk t) :
 Calls Tryz.prog 211 #[.slice A n c,.int .i64 v] w fun e w'=>∃ s:ByteArray,e=.returned (.string s)∧s.toList.isEmpty=vL ts four∧Below w.heap.size w w':=by
 have hl:ts.length=n:=by have:=hr.len;rw [lcs_len] at this;omega
 by_cases h0:n=0
 ·subst h0
  have:ts=[]:=List.length_eq_zero_iff.1 hl
  subst this
  clear hr hok hl hf
  go_enter Tryz.func211,Tryz.ntmps211
  go_wp2
  go_ret
  exact ⟨⟨#[]⟩,rfl,by rw [ByteArray.toList_eq];rfl,bl_refl _⟩
 have hp:0<n:=by omega
 have hv:=vL_parts (ts:=ts) (by omega) four
 rw [hl] at hv
 have hz:((n:Int) == 0)=false:=by simp;omega
 obtain ⟨H,hH⟩:∃ H:Nat→Bool,H 0=decide (0≤la ts 0)∧H 1=spB ts n∧H 2=stB ts four∧H 3=gsB ts (gsN ts four) :=
  ⟨fun i=>if i=0 then decide (0≤la ts 0) else if i=1 then spB ts n else if i=2 then stB ts four else gsB ts (gsN ts four),rfl,rfl,rfl,rfl⟩
 obtain ⟨H0,H1,H2,H3⟩:=hH
 have F0:=hide (fun (w:World) (h:Rk 2 w A n (lcs ts))=>startsLate A n c ts v w hp h)
 have F1:=hide (fun (w:World) (h:Rk 2 w A n (lcs ts))=>isSpaced A n c ts v w hp hn h hok)
 have F2:=hide (fun (w:World) (h:Rk 2 w A n (lcs ts))=>startsBySecond A n c ts v four w hf hp h)
 have F3:=hide (fun (w:World) (h:Rk 2 w A n (lcs ts))=>goesBySeconds A n c ts v four w hf hp hn hcap h hok)
 rw [← H0] at F0
 rw [← H1] at F1
 rw [← H2] at F2
 rw [← H3] at F3
 have E0:=enters Tryz.func254 (by kernel_rfl) (by kernel_rfl)
 have E1:=enters Tryz.func255 (by kernel_rfl) (by kernel_rfl)
 have E2:=enters Tryz.func256 (by kernel_rfl) (by kernel_rfl)
 have E3:=enters Tryz.func257 (by kernel_rfl) (by kernel_rfl)
 obtain ⟨r,hrr⟩:∃ r,r=vL ts four:=⟨_,rfl⟩
 rw [← hrr]
 have hR:=hide (show r=(H 0 && H 1 && H 2 && H 3) by rw [hrr,hv,H0,H1,H2,H3])
 clear hrr hv H0 H1 H2 H3 hf hok hl hcap hn
 have R:=hide (rules w)
 go_enter Tryz.func211,Tryz.ntmps211
 go_wp2_with fail
 refine R.out.mono ?_
 rintro e w1 ⟨ad,cells,rfl,hc,r0,r1,r2,r3,hb⟩
 have hall:∀ i,i<4→∃ (F:FuncId) (s:ByteArray),cells[i * 2]?=some (.string s)∧cells[i * 2+1]?=some (.func (.func F) #[] #[])∧s.toList.isEmpty=false∧(∀ args w,(callFunc F args).run Tryz.prog w=.ok (.enter F args) w)∧(∀ w:World,Rk 2 w A n (lcs ts)→Calls Tryz.prog F #[.slice A n c,.int .i64 v] w fun e w'=>e=.returned (.bool (H i))∧Below w.heap.size w w'):=by
  intro i hi
  rcases (show i=0∨i=1∨i=2∨i=3 by omega) with rfl | rfl | rfl | rfl
  ·obtain ⟨s,a,b,d⟩:=r0;exact ⟨_,s,a,b,d,E0,F0.out⟩
  ·obtain ⟨s,a,b,d⟩:=r1;exact ⟨_,s,a,b,d,E1,F1.out⟩
  ·obtain ⟨s,a,b,d⟩:=r2;exact ⟨_,s,a,b,d,E2,F2.out⟩
  ·obtain ⟨s,a,b,d⟩:=r3;exact ⟨_,s,a,b,d,E3,F3.out⟩
 replace hall:=hide hall
 replace hc:=hide hc
 replace hb:=hide hb
 clear r0 r1 r2 r3 E0 E1 E2 E3 F0 F1 F2 F3 R
 go_wp2_with fail
 go_loopw [12] (fun i wr=>∃ k:Nat,k≤4∧i=.int .i64 (k:Nat)∧Hid (∀ j,j<k→H j=true)∧Hid (Rk 2 wr (some ad) 4 cells)∧Hid (Below w.heap.size w wr)) (fun i _=>4 - (intOf i).toNat)
 case atStart=>exact ⟨0,by omega,rfl,hide (fun j h=>by omega),hc,hb⟩
 case round =>
  clear hc hb
  obtain ⟨k,hk,rfl,ha,hc,hw⟩:=hrel
  by_cases hlt:k<4
  ·obtain ⟨F,s,c0,c1,hs,E,C⟩:=hall.out k hlt
   obtain ⟨_,e0,m0⟩:=hc.out.at_ (i:=k) (j:=0) hlt (by omega) c0
   cases e0
   obtain ⟨_,e1,m1⟩:=hc.out.at_ (i:=k) (j:=1) hlt (by omega) c1
   cases e1
   rw [Nat.add_zero] at m0
   replace m1:wr.cell? ⟨(ad.add (k * 2)).block,(ad.add (k * 2)).off+1,none⟩=some (.func (.func F) #[] #[]):=by rw [← addr_add] at m1;exact m1
   have hb1:=hide (bl_alloc hw.out (.cells #[.string s,.func (.func F) #[] #[]] 281))
   have hc1:=hide (hc.out.alloc (.cells #[.string s,.func (.func F) #[] #[]] 281))
   have bx:=hide (Bx.new wr [.string s,.func (.func F) #[] #[]] 281)
   have CC:=hide (C (wr.alloc (.cells #[.string s,.func (.func F) #[] #[]] 281)) (hr.below hb1.out))
   replace E:=hide E
   clear C c0 c1 hc hw
   cases hk':H k <;> rw [hk'] at CC
   ·have hrf:r=false:=by
     rw [hR.out]
     rcases (show k=0∨k=1∨k=2∨k=3 by omega) with rfl | rfl | rfl | rfl
     all_goals rw [hk']
     all_goals simp
    subst hrf
    clear hk'
    go_wp2_with fail
    rw [E.out,Oper.upon_enter]
    refine CC.out.mono ?_
    rintro e w2 ⟨rfl,h2⟩
    have b0:=(bx.out.below h2).2.1 0 _ rfl
    have hb2:=hide (bel_next hb1.out h2)
    clear CC hb1 hc1 bx h2 m0 m1
    go_wp2
    go_ret
    exact ⟨s,rfl,hs,hb2.out⟩
   ·have ha1:=hide (show ∀ j,j<k+1→H j=true from fun j hj=>by
     rcases Nat.lt_succ_iff_lt_or_eq.1 hj with h | rfl
     ·exact ha.out j h
     ·exact hk')
    clear hk'
    go_wp2_with fail
    rw [E.out,Oper.upon_enter]
    refine CC.out.mono ?_
    rintro e w2 ⟨rfl,h2⟩
    have hb2:=hide (bel_next hb1.out h2)
    have hc2:=hide (hc1.out.below h2)
    clear CC hb1 hc1 bx h2 m0 m1
    go_wp2
    go_roundw
    case rel=>exact ⟨k+1,by omega,by go_num,ha1,hc2,hb2⟩
    case measure=>simp [intOf];omega
  ·obtain rfl:k=4:=by omega
   have hrt:r=true:=by rw [hR.out,ha.out 0 (by omega),ha.out 1 (by omega),ha.out 2 (by omega),ha.out 3 (by omega)];rfl
   subst hrt
   go_wp2
   go_ret
   exact ⟨⟨#[]⟩,rfl,by rw [ByteArray.toList_eq];rfl,hw.out⟩
theorem Valid (A:Option Addr) (n c:Nat) (ts:List LP) (v:Int) (four:Bool) (w:World) (hv0:1≤v) (hv1:v≤4) (hf:decide (v=4)=four) (hn:n≤100000) (hA:(A=none→n=0∧c=0)∧n≤c) (hr:Rk 2 w A n (lcs ts)) (hok:∀ t ∈ ts,lpOk t) :
 Calls Tryz.prog 178 #[.slice A n c,.int .i64 v] w fun e w'=>e=.returned (.bool (vL ts four))∧Below w.heap.size w w':=by
 have C:=hide (broken A n c ts v four w hf hn hA.2 hr hok)
 generalize vL ts four=r at *
 clear hA hr hok hf hv0 hv1 hn
 go_enter Tryz.func178,Tryz.ntmps178
 go_wp2_with fail
 refine C.out.mono ?_
 rintro e w1 ⟨s,rfl,hs,h1⟩
 subst hs
 go_wp2
 go_ret
 exact ⟨rfl,h1⟩
end lp_
def Ti (w:World):Prop:=2<w.heap.size∧w.cell? ⟨2,0,none⟩=some (.bool false)∧w.cell? ⟨2,1,none⟩=some (.bool true)
theorem Ti.below {w w':World} (h:Ti w) (hb:Below w.heap.size w w'):Ti w':=⟨Nat.lt_of_lt_of_le h.1 hb.size,cellE hb h.2.1,cellE hb h.2.2⟩
theorem Ti.at_ {w:World} (h:Ti w) {x:Int} (h0:0≤x) (h1:x≤1):w.cell? ⟨2,x.toNat,none⟩=some (.bool (decide (x=1))):=by
 rcases (show x=0∨x=1 by omega) with rfl | rfl
 ·exact h.2.1
 ·exact h.2.2
theorem two_flags {H:Type} {enc:TypeId × Value→H} {P:Program} {w:World} {base:Nat} {sp:Nat→Bool} {held:Bool} {fuel:Nat} {t e:TypeId} {cs:List Value} {p:List MemPlace} {a b:Bool}
 (ht:P.underlying t=some (.array 2 e)) (he:P.underlying e=some .bool) (hce:P.cellsOf e=1) (hct:P.cellsOf t=2)
 (h:DataW.trod enc P w base sp held fuel t cs=some (.agg [.lit (.bool a),.lit (.bool b)],p)):cs=[.bool a,.bool b]:=by
 cases fuel with
 | zero=>simp [DataW.trod] at h
 | succ fuel =>
   simp only [DataW.trod,ht,hce,hct,Nat.mul_one] at h
   split at h
   ·rename_i hl
    obtain ⟨xs,hm,hx⟩:=Option.map_eq_some_iff.1 h
    have hxs:=congrArg Prod.fst hx
    simp only [DataW.agg.injEq] at hxs
    have hat:∀ i,i<2→∃ b,xs[i]?=some b∧DataW.trod enc P w base sp held fuel e ((cs.drop i).take 1)=some b:=fun i hi=>by
     obtain ⟨b,h1,h2⟩:=Lib.mapM_at hm i i (by simp [hi])
     exact ⟨b,h1,h2⟩
    obtain ⟨y0,g0,f0⟩:=hat 0 (by omega)
    obtain ⟨y1,g1,f1⟩:=hat 1 (by omega)
    obtain ⟨b0,c0,rfl⟩:=DataW.trod_bool he f0
    obtain ⟨b1,c1,rfl⟩:=DataW.trod_bool he f1
    have k0:=congrArg (·[0]?) hxs
    have k1:=congrArg (·[1]?) hxs
    simp [g0] at k0
    simp [g1] at k1
    subst k0 k1
    match cs,hl,c0,c1 with
    | [u,v],_,c0,c1 =>
      simp at c0 c1
      rw [c0,c1]
    | [],hl,_,_=>simp at hl
    | [_],hl,_,_=>simp at hl
    | _ :: _ :: _ :: _,hl,_,_=>simp at hl
   ·cases h
theorem elBn_:ElT Tryz.prog 26 4 (.bool false) 1:=⟨Tryz.underlying26,by kernel_rfl,rfl⟩
theorem elYn_:ElT Tryz.prog 22 5 (.int .u8 0) 1:=⟨Tryz.underlying22,by kernel_rfl,rfl⟩
def rowG {α:Type} (z:α) (l:List α) (n k:Nat):List α:=l.take k++List.replicate (n - k) z
theorem rowG_len {α:Type} (z:α) {l:List α} {n k:Nat} (hl:l.length=n) (h:k≤n):(rowG z l n k).length=n:=by unfold rowG;rw [List.length_append,List.length_take,List.length_replicate];omega
theorem rowG_set {α:Type} (z:α) {l:List α} {n k:Nat} (hl:l.length=n) {x:α} (hx:l[k]?=some x) (h:k<n):(rowG z l n k).set k x=rowG z l n (k+1):=by
 unfold rowG
 obtain ⟨d,hd⟩:∃ d,n - k=d+1:=⟨n - k - 1,by omega⟩
 rw [hd,show n - (k+1)=d by omega,List.set_append_right _ _ (by rw [List.length_take];omega),List.length_take,show k - min k l.length=0 by omega,List.replicate_succ,List.set_cons_zero,List.take_add_one,hx,List.append_assoc]
 rfl
theorem rowG_at {α:Type} (z:α) {l:List α} {n k:Nat} (hl:l.length=n) (h:k<n):(rowG z l n k)[k]?=some z:=by
 unfold rowG
 rw [List.getElem?_append_right (by rw [List.length_take];omega),List.length_take,List.getElem?_replicate,if_pos (by omega)]
theorem rowG_zero {α:Type} (z:α) (l:List α) (n:Nat):rowG z l n 0=List.replicate n z:=by simp [rowG]
theorem rowG_all {α:Type} (z:α) {l:List α} {n:Nat} (hl:l.length=n):rowG z l n n=l:=by unfold rowG;rw [Nat.sub_self,List.take_of_length_le (by omega)];simp
theorem ry_at {w:World} {A:Option Addr} {n:Nat} {xs:List Int} (h:Rd w A n (xs.map (Value.int .u8))) {i:Nat} (hi:i<n):∃ ad x,A=some ad∧xs[i]?=some x∧w.cell? (ad.add i)=some (.int .u8 x):=by
 obtain ⟨ad,v,h1,h2,h3⟩:=h.at_ hi
 rw [List.getElem?_map] at h2
 cases hx:xs[i]? with
 | none=>rw [hx] at h2;simp at h2
 | some x=>rw [hx] at h2;simp at h2;subst h2;exact ⟨ad,x,h1,rfl,h3⟩
namespace in_
theorem Decode (A:Option Addr) (n c:Nat) (l:List Int) (w:World) (hT:Ti w) (hn:n≤100000) (hA:A=none→n=0∧c=0) (hc:n≤c) (hcm:c≤9223372036854775807) (hr:Rd w A n (l.map (Value.int .u8))) (hl0:∀ x ∈ l,0≤x∧x<256) :
 Calls Tryz.prog 162 #[.slice A n c] w fun e w'=>((fI l=true∧∃ A' c',e=.returned (.tuple #[.slice A' n c',.bool true])∧Ow w' w.heap.size 4 A' n c' (bls (dI l)))∨(fI l=false∧e=.returned (.tuple #[.slice none 0 0,.bool false])))∧Below w.heap.size w w':=by
 have hl:l.length=n:=by have:=hr.len;simpa using this
 have HL:=hide hl
 have HB:=hide hl0
 have HT:=hide hT
 have hdl:=hide (show (dI l).length=n by rw [dI_len,hl])
 clear hl hl0 hT
 go_enter Tryz.func162,Tryz.ntmps162
 go_wp2_with (refine mk elBn_ (n:=n) (k:=n) (Below.refl w.heap.size _) (Nat.le_refl _) (Nat.le_refl _) rfl (.tmp 8) (.tmp 8) rfl .i64 .i64 _ _ rfl rfl rfl rfl (Nat.le_refl _) (by omega) (by unfold maxLen;omega) ?_;intro w1 ho1 hb1)
 have h0:(List.replicate n (Value.bool false))=bls (rowG false (dI l) n 0):=by rw [rowG_zero,bls,List.map_replicate]
 rw [h0] at ho1
 clear h0
 go_loopw [12] (fun i wr=>∃ (k:Nat),k≤n∧i=.int .i64 (k:Nat)∧Hid (fI (l.take k)=true)∧Hid (Ow wr w.heap.size 4 (some ⟨w.heap.size,0,none⟩) n n (bls (rowG false (dI l) n k)))∧Hid (Below w.heap.size w wr)) (fun i _=>n - (intOf i).toNat)
 case atStart=>exact ⟨0,by omega,rfl,hide rfl,hide ho1,hide hb1⟩
 case round =>
  clear ho1 hb1
  obtain ⟨k,hk,rfl,hf,ho,hw⟩:=hrel
  by_cases hlt:k<n
  ·have hkn:(k:Int)<(n:Int):=by omega
   obtain ⟨ad,x,rfl,hx,f0⟩:=ry_at (hr.below hw.out) hlt
   obtain ⟨x0,x1⟩:=HB.out x (List.mem_of_getElem? hx)
   have hst:=hide (fI_step hx)
   by_cases hx1:x≤1
   ·have hdx:(dI l)[k]?=some (decide (x=1)):=by unfold dI;rw [List.getElem?_map,hx];rfl
    have tx:=(HT.out.below hw.out).at_ x0 hx1
    have hset:=hide (rowG_set false hdl.out hdx hlt)
    have p0:=ho.out.cell k (by omega)
    rw [bls,List.getElem?_map,rowG_at false hdl.out hlt] at p0
    have z0:=ho.out.frozen k
    have hfs:=hide (show fI (l.take (k+1))=true by rw [hst.out,hf.out,decide_eq_true hx1];rfl)
    have ho2:=ho.out.set k (.bool (decide (x=1)))
    rw [bls,← List.map_set,hset.out] at ho2
    have hb2:=hide (bl_set (g:=w.heap.size) (o:=k) hw.out (Nat.le_refl _) (.bool (decide (x=1))))
    replace ho2:=hide ho2
    have d1:decide ((2:Int)≤x)=false:=by simp;omega
    have hx2:x<2:=by omega
    generalize decide (x=1)=bx at *
    clear hdx hst hx hset ho hw hx1
    go_wp2
    go_roundw
    case rel=>exact ⟨k+1,by omega,by go_num,hfs,ho2,hb2⟩
    case measure=>simp [intOf];omega
   ·have d1:decide ((2:Int)≤x)=true:=by simp;omega
    have hno:=hide (show fI l=false by
     rw [← Bool.not_eq_true]
     intro h
     have:=List.all_eq_true.1 h x (List.mem_of_getElem? hx)
     simp at this
     omega)
    clear hx hx1
    go_wp2
    go_ret2
    exact ⟨.inr ⟨hno.out,rfl⟩,hw.out⟩
  ·obtain rfl:k=n:=by omega
   have hts:l.take k=l:=List.take_of_length_le (by rw [HL.out];exact Nat.le_refl _)
   rw [hts] at hf
   rw [rowG_all false hdl.out] at ho
   clear hts
   go_wp2
   go_ret2
   exact ⟨.inl ⟨hf.out,_,_,rfl,ho.out⟩,hw.out⟩
theorem byteOf (b:Bool) (w:World):Calls Tryz.prog 156 #[.bool b] w fun e w'=>e=.returned (.int .u8 (eB b))∧w=w':=by
 cases b
 all_goals
  go_enter Tryz.func156,Tryz.ntmps156
  go_wp2
  go_ret
  exact ⟨rfl,rfl⟩
theorem Encode (A:Option Addr) (n c:Nat) (l:List Bool) (w:World) (hT:Ti w) (hn:n≤100000) (hA:A=none→n=0∧c=0) (hc:n≤c) (hcm:c≤9223372036854775807) (hr:Rd w A n (bls l)) :
 Calls Tryz.prog 115 #[.slice A n c] w fun e w'=>∃ A' c',e=.returned (.slice A' n c')∧Ow w' w.heap.size 5 A' n c' ((eI l).map (Value.int .u8))∧Below w.heap.size w w':=by
 have hl:l.length=n:=by have:=hr.len;simpa using this
 have hdl:=hide (show (eI l).length=n by rw [eI_len,hl])
 clear hl hT
 go_enter Tryz.func115,Tryz.ntmps115
 go_wp2_with (refine mk elYn_ (n:=n) (k:=n) (Below.refl w.heap.size _) (Nat.le_refl _) (Nat.le_refl _) rfl (.tmp 7) (.tmp 7) rfl .i64 .i64 _ _ rfl rfl rfl rfl (Nat.le_refl _) (by omega) (by unfold maxLen;omega) ?_;intro w1 ho1 hb1)
 have h0:(List.replicate n (Value.int .u8 0))=(rowG 0 (eI l) n 0).map (Value.int .u8):=by rw [rowG_zero,List.map_replicate]
 rw [h0] at ho1
 clear h0
 go_loopw [11] (fun i wr=>∃ (k:Nat),k≤n∧i=.int .i64 (k:Nat)∧Hid (Ow wr w.heap.size 5 (some ⟨w.heap.size,0,none⟩) n n ((rowG 0 (eI l) n k).map (Value.int .u8)))∧Hid (Below w.heap.size w wr)) (fun i _=>n - (intOf i).toNat)
 case atStart=>exact ⟨0,by omega,rfl,hide ho1,hide hb1⟩
 case round =>
  clear ho1 hb1
  obtain ⟨k,hk,rfl,ho,hw⟩:=hrel
  by_cases hlt:k<n
  ·have hkn:(k:Int)<(n:Int):=by omega
   obtain ⟨ad,x,rfl,hx,f0⟩:=rb_at (hr.below hw.out) hlt
   have hdx:(eI l)[k]?=some (eB x):=by unfold eI;rw [List.getElem?_map,hx];rfl
   have hset:=hide (rowG_set 0 hdl.out hdx hlt)
   have p0:=ho.out.cell k (by omega)
   rw [List.getElem?_map,rowG_at 0 hdl.out hlt] at p0
   have z0:=ho.out.frozen k
   have ho2:=ho.out.set k (.int .u8 (eB x))
   rw [← List.map_set,hset.out] at ho2
   have hb2:=hide (bl_set (g:=w.heap.size) (o:=k) hw.out (Nat.le_refl _) (.int .u8 (eB x)))
   replace ho2:=hide ho2
   have Y:=hide (fun w=>byteOf x w)
   generalize eB x=y at *
   clear hdx hx hset ho hw
   go_wp2_with fail
   refine (Y.out _).mono ?_
   rintro e w1 ⟨rfl,rfl⟩
   go_wp2
   go_roundw
   case rel=>exact ⟨k+1,by omega,by go_num,ho2,hb2⟩
   case measure=>simp [intOf];omega
  ·obtain rfl:k=n:=by omega
   rw [rowG_all 0 hdl.out] at ho
   go_wp2
   go_ret
   exact ⟨_,_,rfl,ho.out,hw.out⟩
theorem Consistent (A A':Option Addr) (n n' c c':Nat) (s u:List Bool) (w:World) (hT:Ti w) (hn:n≤100000) (hn':n'≤100000) (hA:A=none→n=0∧c=0) (hA':A'=none→n'=0∧c'=0) (hc:n≤c) (hc':n'≤c') (hcm:c≤9223372036854775807) (hcm':c'≤9223372036854775807) (hr:Rd w A n (bls s)) (hr':Rd w A' n' (bls u)) :
 Calls Tryz.prog 180 #[.slice A n c,.slice A' n' c'] w fun e w'=>e=.returned (.bool (cn s u))∧Below w.heap.size w w':=by
 have hl:s.length=n:=by have:=hr.len;simpa using this
 have hl':u.length=n':=by have:=hr'.len;simpa using this
 obtain ⟨b,hb⟩:∃ b,b=cn s u:=⟨_,rfl⟩
 rw [← hb]
 have HB:=hide hb
 have HL:=hide hl
 have HL':=hide hl'
 have hrf:=hide (bl_refl w)
 clear hb hl hl' hT hc hc' hcm hcm' hA hA'
 go_enter Tryz.func180,Tryz.ntmps180
 go_wp2
 go_loop [9] (fun i=>∃ k:Nat,k≤n'∧i=.int .i64 (k:Nat)∧Hid (cnN s u k=true)) (fun i=>n' - (intOf i).toNat)
 case atStart=>exact ⟨0,by omega,rfl,hide rfl⟩
 case round =>
  obtain ⟨k,hk,rfl,hc⟩:=hrel
  by_cases hlt:k<n'
  ·have hkn:(k:Int)<(n':Int):=by omega
   obtain ⟨ad',y,e2,hy,g0⟩:=rb_at hr' hlt
   subst e2
   have hby:=bg_at hy
   by_cases hks:k<n
   ·have dk:decide ((n:Int)≤(k:Int))=false:=by simp;omega
    have dk2:(k:Int)<(n:Int):=by omega
    obtain ⟨ad,x,e1,hx,f0⟩:=rb_at hr hks
    subst e1
    have hbx:=bg_at hx
    have hst:=cnN_step s u k
    rw [hc.out,hby,hbx,Bool.true_and] at hst
    have hno:=hide (fun (h1:y=true) (h2:x=false)=>show b=false by rw [HB.out];exact cn_no (by rw [HL'.out];exact hlt) (hby.trans h1) (hbx.trans h2))
    replace hst:=hide hst
    clear hx hy hbx hby
    cases y
    ·clear hno
     go_wp2
     go_round
     case rel=>exact ⟨k+1,by omega,by go_num,by rw [hst.out];exact hide rfl⟩
     case measure=>simp [intOf];omega
    ·cases x
     ·obtain rfl:=hno.out rfl rfl
      go_wp2
      go_ret
      exact ⟨rfl,hrf.out⟩
     ·clear hno
      go_wp2
      go_round
      case rel=>exact ⟨k+1,by omega,by go_num,by rw [hst.out];exact hide rfl⟩
      case measure=>simp [intOf];omega
   ·have dk:decide ((n:Int)≤(k:Int))=true:=by simp;omega
    have hbx:bg s k=false:=bg_out (by rw [HL.out];omega)
    have hst:=cnN_step s u k
    rw [hc.out,hby,hbx,Bool.true_and,Bool.or_false] at hst
    have hno:=hide (fun (h1:y=true)=>show b=false by rw [HB.out];exact cn_no (by rw [HL'.out];exact hlt) (hby.trans h1) hbx)
    replace hst:=hide hst
    clear hy hbx hby
    cases y
    ·clear hno
     go_wp2
     go_round
     case rel=>exact ⟨k+1,by omega,by go_num,by rw [hst.out];exact hide rfl⟩
     case measure=>simp [intOf];omega
    ·obtain rfl:=hno.out rfl
     go_wp2
     go_ret
     exact ⟨rfl,hrf.out⟩
  ·obtain rfl:k=n':=by omega
   obtain rfl:b=true:=by rw [HB.out];unfold cn;rw [HL'.out];exact hc.out
   go_wp2
   go_ret
   exact ⟨rfl,hrf.out⟩
end in_
def fnz:List Int→Int
 | []=>0
 | x :: l=>if x=0 then fnz l else x
theorem fnz_at:∀ {l:List Int} {k:Nat} {x:Int},(∀ j,j<k→l[j]?=some 0)→l[k]?=some x→x≠0→fnz l=x
 | [],k,x,_,h,_=>by simp at h
 | y :: l,0,x,_,h,hx=>by simp at h;subst h;simp [fnz,hx]
 | y :: l,k+1,x,ha,h,hx=>by
   have h0:=ha 0 (by omega)
   simp at h0
   subst h0
   simp only [fnz,if_true]
   exact fnz_at (k:=k) (fun j hj=>by have:=ha (j+1) (by omega);simpa using this) (by simpa using h) hx
theorem fnz_all:∀ {l:List Int},(∀ j,j<l.length→l[j]?=some 0)→fnz l=0
 | [],_=>rfl
 | y :: l,ha=>by
   have h0:=ha 0 (by simp)
   simp at h0
   subst h0
   simp only [fnz,if_true]
   exact fnz_all (fun j hj=>by have:=ha (j+1) (by simp;omega);simpa using this)
theorem rd_roV {w:World} {g:Nat} {cs:List Value} {T:TypeId} (h:Ro w g cs.toArray T):Rd w (some ⟨g,0,none⟩) cs.length cs :=
 ⟨rfl,fun _=>⟨_,rfl,fun i v hi=>by rw [addr_flat,Nat.zero_add,h.cell];simpa using hi⟩⟩
def rq (b:Bool) (e:Int):Int:=if b then 0 else e
theorem vB_fnz (b:Bk) (four:Bool) (k:Nat):vB b four k=fnz [rq (cntOk b) 6,rq (fT k b.ti && lfit k b.lp) 18,rq (decide (desc b.ti<0)) 7,rq (ixOk b.ty.length b.ix) 8,chk b.ty b.ch.length,rq (decide (badL b.ch=-1)) 11,rq (vL b.lp four) 12,rq (cn b.sd b.ut) 13]:=by
 have hd:(desc b.ti<0) ↔ desc b.ti=-1:=by
  rcases desc_spec b.ti with ⟨h,_⟩ | ⟨j,h,_⟩ <;> omega
 unfold vB
 rw [show decide (desc b.ti<0)=decide (desc b.ti=-1) from by rw [decide_eq_decide];exact hd]
 simp only [fnz,rq]
 cases cntOk b <;> cases fT k b.ti <;> cases lfit k b.lp <;> cases ixOk b.ty.length b.ix <;> cases vL b.lp four <;> cases cn b.sd b.ut <;> by_cases h1:desc b.ti=-1 <;> by_cases h2:chk b.ty b.ch.length=0 <;> by_cases h3:badL b.ch=-1 <;> simp [h1,h2,h3]
namespace vd_
theorem require (h:Bool) (e:Int) (w:World):Calls Tryz.prog 104 #[.bool h,.int .i64 e] w fun r w'=>r=.returned (.int .i64 (rq h e))∧Below w.heap.size w w':=by
 have hb:=hide (bl_refl w)
 cases h
 all_goals
  go_enter Tryz.func104,Tryz.ntmps104
  go_wp2
  go_ret
  exact ⟨rfl,hb.out⟩
theorem isCountOrNone (n m:Nat) (w:World):Calls Tryz.prog 206 #[.int .i64 n,.int .i64 m] w fun r w'=>r=.returned (.bool (decide (n=0) || decide (n=m)))∧Below w.heap.size w w':=by
 have hb:=hide (bl_refl w)
 by_cases a:n=0
 ·subst a
  go_enter Tryz.func206,Tryz.ntmps206
  go_wp2
  go_ret
  exact ⟨rfl,hb.out⟩
 ·have fa:((n:Int) == 0)=false:=by simp;omega
  have fa':decide ((n:Int)=0)=false:=by simp;omega
  have ga:decide (n=0)=false:=by simp;omega
  by_cases b:n=m
  ·subst b
   go_enter Tryz.func206,Tryz.ntmps206
   go_wp2
   go_ret
   exact ⟨retb (by simp),hb.out⟩
  ·have fb:((n:Int) == (m:Int))=false:=by simp;omega
   have fb':decide ((n:Int)=(m:Int))=false:=by simp;omega
   have gb:decide (n=m)=false:=by simp;omega
   replace a:=hide a
   replace b:=hide b
   go_enter Tryz.func206,Tryz.ntmps206
   go_wp2
   go_ret
   exact ⟨retb (by simp [ga,gb]),hb.out⟩
theorem or_ (l:List Int) (n:Nat) (B:Nat) (w:World) (h:Rd w (some ⟨B,0,none⟩) n (l.map (Value.int .i64))) (hn:n≤1000) :
 Calls Tryz.prog 135 #[.slice (some ⟨B,0,none⟩) n n] w fun e w'=>e=.returned (.int .i64 (fnz l))∧Below w.heap.size w w':=by
 have hl:l.length=n:=by have:=h.len;simpa using this
 have hb:=hide (bl_refl w)
 obtain ⟨r,hr⟩:∃ r,r=fnz l:=⟨_,rfl⟩
 rw [← hr]
 replace hr:=hide hr
 replace hl:=hide hl
 go_enter Tryz.func135,Tryz.ntmps135
 go_wp2_with fail
 go_loop [8] (fun i=>∃ k:Nat,k≤n∧i=.int .i64 (k:Nat)∧Hid (∀ j,j<k→l[j]?=some 0)) (fun i=>n - (intOf i).toNat)
 case atStart=>exact ⟨0,by omega,rfl,hide (fun j h=>by omega)⟩
 case round =>
  obtain ⟨k,hk,rfl,ha⟩:=hrel
  by_cases hlt:k<n
  ·obtain ⟨ad,e1,hc⟩:=h.int hlt
   cases e1
   have hx:l[k]?=some (l[k]?.getD 0):=by rw [List.getElem?_eq_getElem (by rw [hl.out];exact hlt)];rfl
   have hno:=hide (fun (hz:l[k]?.getD 0≠0)=>fnz_at ha.out hx hz)
   have hyes:=hide (fun (hz:l[k]?.getD 0=0)=>show ∀ j,j<k+1→l[j]?=some 0 from fun j hj=>by
    rcases Nat.lt_succ_iff_lt_or_eq.1 hj with h | rfl
    ·exact ha.out j h
    ·rw [hx,hz])
   generalize l[k]?.getD 0=x at *
   simp only [addr_flat,Nat.zero_add] at hc
   clear hx
   by_cases hx:x=0
   ·subst hx
    have hy:=hide (hyes.out rfl)
    clear hno hyes
    go_wp2
    go_round
    case rel=>exact ⟨k+1,by omega,by go_num,hy⟩
    case measure=>simp [intOf];omega
   ·obtain rfl:r=x:=by rw [hr.out];exact hno.out hx
    have d1:(r != 0)=true:=by simpa using hx
    have d2:decide (r=0)=false:=decide_eq_false hx
    clear hno hyes
    replace hx:=hide hx
    go_wp2
    go_ret
    exact ⟨rfl,hb.out⟩
  ·obtain rfl:k=n:=by omega
   obtain rfl:r=0:=by rw [hr.out];exact fnz_all (fun j hj=>ha.out j (by rw [← hl.out];exact hj))
   go_wp2
   go_ret
   exact ⟨rfl,hb.out⟩
def cntS (S:BkS):Bool:=decide (S.ix.n=S.ti.n) && !decide (S.ty.n=0) && !decide (S.ch.n=0) && (decide (S.sd.n=0) || decide (S.sd.n=S.ty.n)) && (decide (S.ut.n=0) || decide (S.ut.n=S.ty.n))
theorem cntS_fnz (b1 b2 b3 b4 b5:Bool):fnz [rq b1 6,rq b2 6,rq b3 6,rq b4 6,rq b5 6]=rq (b1 && b2 && b3 && b4 && b5) 6:=by
 cases b1 <;> cases b2 <;> cases b3 <;> cases b4 <;> cases b5 <;> rfl
theorem checkCounts (S:BkS) (w:World):Calls Tryz.prog 166 #[bkV S] w fun e w'=>e=.returned (.int .i64 (rq (cntS S) 6))∧Below w.heap.size w w':=by
 unfold cntS
 obtain ⟨⟨A0,n0,c0⟩,⟨A1,n1,c1⟩,⟨A2,n2,c2⟩,⟨A3,n3,c3⟩,⟨A4,n4,c4⟩,⟨A5,n5,c5⟩,⟨A6,n6,c6⟩⟩:=S
 dsimp only [bkV]
 obtain ⟨cs,hcs⟩:∃ cs:Array Value,cs=#[.slice A0 n0 c0,.slice A1 n1 c1,.slice A2 n2 c2,.slice A3 n3 c3,.slice A4 n4 c4,.slice A5 n5 c5,.slice A6 n6 c6]:=⟨_,rfl⟩
 have q0:=hide (show cs[0]?=some (.slice A0 n0 c0) by rw [hcs];rfl)
 have q1:=hide (show cs[1]?=some (.slice A1 n1 c1) by rw [hcs];rfl)
 have q2:=hide (show cs[2]?=some (.slice A2 n2 c2) by rw [hcs];rfl)
 have q3:=hide (show cs[3]?=some (.slice A3 n3 c3) by rw [hcs];rfl)
 have q4:=hide (show cs[4]?=some (.slice A4 n4 c4) by rw [hcs];rfl)
 have q5:=hide (show cs[5]?=some (.slice A5 n5 c5) by rw [hcs];rfl)
 have q6:=hide (show cs[6]?=some (.slice A6 n6 c6) by rw [hcs];rfl)
 rw [← hcs]
 have k3:=hide (Ro.new w cs 28)
 have hb:=hide (bl_new w (.cells cs 28))
 clear hcs
 have I4:=hide (fun w=>isCountOrNone n5 n2 w)
 have I5:=hide (fun w=>isCountOrNone n6 n2 w)
 generalize (decide (n5=0) || decide (n5=n2))=b4 at *
 generalize (decide (n6=0) || decide (n6=n2))=b5 at *
 obtain ⟨b1,h1⟩:∃ b,b=decide (n1=n0):=⟨_,rfl⟩
 obtain ⟨b2,h2⟩:∃ b,b=!decide (n2=0):=⟨_,rfl⟩
 obtain ⟨b3,h3⟩:∃ b,b=!decide (n3=0):=⟨_,rfl⟩
 rw [← h1,← h2,← h3,← cntS_fnz]
 have f1:decide ((n1:Int)=(n0:Int))=b1:=by rw [h1,decide_eq_decide];omega
 have e1:((n1:Int) == (n0:Int))=b1:=by rw [← f1];rfl
 have f2:decide (0<(n2:Int))=b2:=by rw [h2,← decide_not,decide_eq_decide];omega
 have f3:decide (0<(n3:Int))=b3:=by rw [h3,← decide_not,decide_eq_decide];omega
 have v1:=h1.symm
 have v2:decide (0<n2)=b2:=by rw [h2,← decide_not,decide_eq_decide];omega
 have v3:decide (0<n3)=b3:=by rw [h3,← decide_not,decide_eq_decide];omega
 clear h1 h2 h3
 have C1:=hide (fun w=>require b1 6 w)
 have C2:=hide (fun w=>require b2 6 w)
 have C3:=hide (fun w=>require b3 6 w)
 have C4:=hide (fun w=>require b4 6 w)
 have C5:=hide (fun w=>require b5 6 w)
 generalize rq b1 6=x1 at *
 generalize rq b2 6=x2 at *
 generalize rq b3 6=x3 at *
 generalize rq b4 6=x4 at *
 generalize rq b5 6=x5 at *
 have O:=hide (fun B w (h:Ro w B #[.int .i64 x1,.int .i64 x2,.int .i64 x3,.int .i64 x4,.int .i64 x5] 33)=>or_ [x1,x2,x3,x4,x5] 5 B w (rd_roV (cs:=[.int .i64 x1,.int .i64 x2,.int .i64 x3,.int .i64 x4,.int .i64 x5]) h) (by decide))
 generalize fnz [x1,x2,x3,x4,x5]=r at *
 go_enter Tryz.func166,Tryz.ntmps166
 go_upto_region 1 with fail
 generalize (w.alloc (.cells cs 28))=u at *
 refine wp_region_held_drew (S:=fun w'=>Hid (Ro w' (w.heap.size) (cs) 28)∧Hid (Below w.heap.size w w')) (by kernel_rfl) (⟨hide k3.out.drew,hide (bl_drew hb.out)⟩) (fun hHeld=>?_)
 generalize u.drew=u0 at *
 refine tkV 0 (some 3) (v:=?_) ?_ ?_
 rotate_left
 ·((intro w hSw;go_simp) <;> with_reducible rfl)
 try simp only [Act.put,sI1,sI2,sI3]
 refine tkV 1 (some 4) (v:=?_) ?_ ?_
 rotate_left
 ·((intro w hSw;obtain ⟨y1,_⟩:=ro_cf hSw.1.out 1 _ q1.out;go_simp) <;> with_reducible rfl)
 try simp only [Act.put,sI1,sI2,sI3]
 refine tkV 2 (some 5) (v:=?_) ?_ ?_
 rotate_left
 ·((intro w hSw;go_simp) <;> with_reducible rfl)
 try simp only [Act.put,sI1,sI2,sI3]
 refine tkV 3 (some 6) (v:=?_) ?_ ?_
 rotate_left
 ·((intro w hSw;go_simp) <;> with_reducible rfl)
 try simp only [Act.put,sI1,sI2,sI3]
 refine tkV 4 (some 7) (v:=?_) ?_ ?_
 rotate_left
 ·((intro w hSw;obtain ⟨y0,_⟩:=ro_cf hSw.1.out 0 _ q0.out;go_simp) <;> with_reducible rfl)
 try simp only [Act.put,sI1,sI2,sI3]
 refine tkV 5 (some 8) (v:=?_) ?_ ?_
 rotate_left
 ·((intro w hSw;go_simp) <;> with_reducible rfl)
 try simp only [Act.put,sI1,sI2,sI3]
 refine tkV 6 (some 9) (v:=?_) ?_ ?_
 rotate_left
 ·((intro w hSw;go_simp) <;> with_reducible rfl)
 try simp only [Act.put,sI1,sI2,sI3]
 refine tkV 8 (some 11) (v:=?_) ?_ ?_
 rotate_left
 ·((intro w hSw;go_simp) <;> with_reducible rfl)
 try simp only [Act.put,sI1,sI2,sI3]
 refine tkV 9 (some 12) (v:=?_) ?_ ?_
 rotate_left
 ·((intro w hSw;obtain ⟨y2,_⟩:=ro_cf hSw.1.out 2 _ q2.out;go_simp) <;> with_reducible rfl)
 try simp only [Act.put,sI1,sI2,sI3]
 refine tkV 10 (some 13) (v:=?_) ?_ ?_
 rotate_left
 ·((intro w hSw;go_simp) <;> with_reducible rfl)
 try simp only [Act.put,sI1,sI2,sI3]
 refine tkV 11 (some 14) (v:=?_) ?_ ?_
 rotate_left
 ·((intro w hSw;go_simp) <;> with_reducible rfl)
 try simp only [Act.put,sI1,sI2,sI3]
 refine tkV 13 (some 16) (v:=?_) ?_ ?_
 rotate_left
 ·((intro w hSw;go_simp) <;> with_reducible rfl)
 try simp only [Act.put,sI1,sI2,sI3]
 refine tkV 14 (some 17) (v:=?_) ?_ ?_
 rotate_left
 ·((intro w hSw;obtain ⟨y3,_⟩:=ro_cf hSw.1.out 3 _ q3.out;go_simp) <;> with_reducible rfl)
 try simp only [Act.put,sI1,sI2,sI3]
 refine tkV 15 (some 18) (v:=?_) ?_ ?_
 rotate_left
 ·((intro w hSw;go_simp) <;> with_reducible rfl)
 try simp only [Act.put,sI1,sI2,sI3]
 refine tkV 16 (some 19) (v:=?_) ?_ ?_
 rotate_left
 ·((intro w hSw;go_simp) <;> with_reducible rfl)
 try simp only [Act.put,sI1,sI2,sI3]
 refine tkV 18 (some 21) (v:=?_) ?_ ?_
 rotate_left
 ·((intro w hSw;go_simp) <;> with_reducible rfl)
 try simp only [Act.put,sI1,sI2,sI3]
 refine tkV 19 (some 22) (v:=?_) ?_ ?_
 rotate_left
 ·((intro w hSw;obtain ⟨y5,_⟩:=ro_cf hSw.1.out 5 _ q5.out;go_simp) <;> with_reducible rfl)
 try simp only [Act.put,sI1,sI2,sI3]
 refine tkV 20 (some 23) (v:=?_) ?_ ?_
 rotate_left
 ·((intro w hSw;go_simp) <;> with_reducible rfl)
 try simp only [Act.put,sI1,sI2,sI3]
 refine tkV 21 (some 24) (v:=?_) ?_ ?_
 rotate_left
 ·((intro w hSw;go_simp) <;> with_reducible rfl)
 try simp only [Act.put,sI1,sI2,sI3]
 refine tkV 22 (some 25) (v:=?_) ?_ ?_
 rotate_left
 ·((intro w hSw;obtain ⟨y2,_⟩:=ro_cf hSw.1.out 2 _ q2.out;go_simp) <;> with_reducible rfl)
 try simp only [Act.put,sI1,sI2,sI3]
 refine tkV 23 (some 26) (v:=?_) ?_ ?_
 rotate_left
 ·((intro w hSw;go_simp) <;> with_reducible rfl)
 try simp only [Act.put,sI1,sI2,sI3]
 refine tkV 26 (some 29) (v:=?_) ?_ ?_
 rotate_left
 ·((intro w hSw;go_simp) <;> with_reducible rfl)
 try simp only [Act.put,sI1,sI2,sI3]
 refine tkV 27 (some 30) (v:=?_) ?_ ?_
 rotate_left
 ·((intro w hSw;obtain ⟨y6,_⟩:=ro_cf hSw.1.out 6 _ q6.out;go_simp) <;> with_reducible rfl)
 try simp only [Act.put,sI1,sI2,sI3]
 refine tkV 28 (some 31) (v:=?_) ?_ ?_
 rotate_left
 ·((intro w hSw;go_simp) <;> with_reducible rfl)
 try simp only [Act.put,sI1,sI2,sI3]
 refine tkV 29 (some 32) (v:=?_) ?_ ?_
 rotate_left
 ·((intro w hSw;go_simp) <;> with_reducible rfl)
 try simp only [Act.put,sI1,sI2,sI3]
 refine tkV 30 (some 33) (v:=?_) ?_ ?_
 rotate_left
 ·((intro w hSw;obtain ⟨y2,_⟩:=ro_cf hSw.1.out 2 _ q2.out;go_simp) <;> with_reducible rfl)
 try simp only [Act.put,sI1,sI2,sI3]
 refine tkV 31 (some 34) (v:=?_) ?_ ?_
 rotate_left
 ·((intro w hSw;go_simp) <;> with_reducible rfl)
 try simp only [Act.put,sI1,sI2,sI3]
 refine wpAnyH_ready (rs:=[7]) (by kernel_rfl) (by simp) ?_
 refine AllReadyH.cons rfl (fun K hK=>?_) (AllReadyH.nil)
 go_simp
 refine (C1.out _).mono ?_
 rintro e v1 ⟨rfl,h1'⟩
 refine hK.out _ _ (⟨hide (hHeld.1.out.below h1'),hide (bel_next hHeld.2.out h1')⟩) (fun hHeld=>?_)
 clear hK K h1'
 try simp only [Act.put,sI1,sI2,sI3]
 refine wpAnyH_ready (rs:=[12]) (by kernel_rfl) (by simp) ?_
 refine AllReadyH.cons rfl (fun K hK=>?_) (AllReadyH.nil)
 go_simp
 refine (C2.out _).mono ?_
 rintro e v2 ⟨rfl,h1'⟩
 refine hK.out _ _ (⟨hide (hHeld.1.out.below h1'),hide (bel_next hHeld.2.out h1')⟩) (fun hHeld=>?_)
 clear hK K h1'
 try simp only [Act.put,sI1,sI2,sI3]
 refine wpAnyH_ready (rs:=[17]) (by kernel_rfl) (by simp) ?_
 refine AllReadyH.cons rfl (fun K hK=>?_) (AllReadyH.nil)
 go_simp
 refine (C3.out _).mono ?_
 rintro e v3 ⟨rfl,h1'⟩
 refine hK.out _ _ (⟨hide (hHeld.1.out.below h1'),hide (bel_next hHeld.2.out h1')⟩) (fun hHeld=>?_)
 clear hK K h1'
 try simp only [Act.put,sI1,sI2,sI3]
 refine wpAnyH_ready (rs:=[24]) (by kernel_rfl) (by simp) ?_
 refine AllReadyH.cons rfl (fun K hK=>?_) (AllReadyH.nil)
 go_simp
 refine (I4.out _).mono ?_
 rintro e v4 ⟨rfl,h1'⟩
 refine hK.out _ _ (⟨hide (hHeld.1.out.below h1'),hide (bel_next hHeld.2.out h1')⟩) (fun hHeld=>?_)
 clear hK K h1'
 try simp only [Act.put,sI1,sI2,sI3]
 refine wpAnyH_ready (rs:=[25]) (by kernel_rfl) (by simp) ?_
 refine AllReadyH.cons rfl (fun K hK=>?_) (AllReadyH.nil)
 go_simp
 refine (C4.out _).mono ?_
 rintro e v5 ⟨rfl,h1'⟩
 refine hK.out _ _ (⟨hide (hHeld.1.out.below h1'),hide (bel_next hHeld.2.out h1')⟩) (fun hHeld=>?_)
 clear hK K h1'
 try simp only [Act.put,sI1,sI2,sI3]
 refine wpAnyH_ready (rs:=[32]) (by kernel_rfl) (by simp) ?_
 refine AllReadyH.cons rfl (fun K hK=>?_) (AllReadyH.nil)
 go_simp
 refine (I5.out _).mono ?_
 rintro e v6 ⟨rfl,h1'⟩
 refine hK.out _ _ (⟨hide (hHeld.1.out.below h1'),hide (bel_next hHeld.2.out h1')⟩) (fun hHeld=>?_)
 clear hK K h1'
 try simp only [Act.put,sI1,sI2,sI3]
 refine wpAnyH_ready (rs:=[33]) (by kernel_rfl) (by simp) ?_
 refine AllReadyH.cons rfl (fun K hK=>?_) (AllReadyH.nil)
 go_simp
 refine (C5.out _).mono ?_
 rintro e v7 ⟨rfl,h1'⟩
 refine hK.out _ _ (⟨hide (hHeld.1.out.below h1'),hide (bel_next hHeld.2.out h1')⟩) (fun hHeld=>?_)
 clear hK K h1'
 try simp only [Act.put,sI1,sI2,sI3]
 refine wpAnyH_ready (rs:=[34]) (by kernel_rfl) (by simp) ?_
 refine AllReadyH.cons rfl (fun K hK=>?_) (AllReadyH.nil)
 go_simp
 have hz_s:=hide (Ro.new v7 #[.int .i64 x1,.int .i64 x2,.int .i64 x3,.int .i64 x4,.int .i64 x5] 33)
 refine hK.out _ _ (⟨hide (hHeld.1.out.alloc _),hide (bl_alloc hHeld.2.out _)⟩) (fun hHeld=>?_)
 clear hK K
 generalize v7.heap.size=g_s at *
 generalize v7.alloc (.cells #[.int .i64 x1,.int .i64 x2,.int .i64 x3,.int .i64 x4,.int .i64 x5] 33)=v8 at *
 try simp only [Act.put,sI1,sI2,sI3]
 refine wpAnyH_ready (rs:=[35]) (by kernel_rfl) (by simp) ?_
 refine AllReadyH.cons rfl (fun K hK=>?_) (AllReadyH.nil)
 go_simp
 refine (O.out g_s _ hz_s.out).mono ?_
 rintro e v9 ⟨rfl,h1'⟩
 replace hz_s:=hide (hz_s.out.below h1')
 refine hK.out _ _ (⟨hide (hHeld.1.out.below h1'),hide (bel_next hHeld.2.out h1')⟩) (fun hHeld=>?_)
 clear hK K h1'
 try simp only [Act.put,sI1,sI2,sI3]
 refine tkV 36 (some 2) (v:=?_) ?_ ?_
 rotate_left
 ·((intro w hSw;go_simp) <;> with_reducible rfl)
 try simp only [Act.put,sI1,sI2,sI3]
 refine wpAnyH_done (by kernel_rfl) ?_ _
 go_wp2_with fail
 go_ret
 exact ⟨rfl,hHeld.2.out⟩
def rowL_ (ts:List LP) (n q:Nat):List Int:=(ts.take q).map (·.1)++List.replicate (n - q) 0
theorem rowL_at {ts:List LP} {n q:Nat} (hl:ts.length=n) (h:q<n):(rowL_ ts n q)[q]?=some 0:=by
 unfold rowL_
 have e:((ts.take q).map (·.1)).length=q:=by simp;omega
 rw [List.getElem?_append_right (by omega),e,Nat.sub_self,List.getElem?_replicate,if_pos (by omega)]
theorem rowL_set {ts:List LP} {n q:Nat} (hl:ts.length=n) (h:q<n) {t:LP} (ht:ts[q]?=some t):(rowL_ ts n q).set q t.1=rowL_ ts n (q+1):=by
 unfold rowL_
 have e:((ts.take q).map (·.1)).length=q:=by simp;omega
 rw [List.set_append_right _ _ (by omega),e,Nat.sub_self,show n - q=(n - (q+1))+1 by omega,List.replicate_succ,List.set_cons_zero,List.take_add_one,ht]
 simp
theorem leapTimes (A:Option Addr) (n c:Nat) (ts:List LP) (w:World) (hn:n≤100000) (hr:Rk 2 w A n (lcs ts)) :
 Calls Tryz.prog 208 #[.slice A n c] w fun e w'=>∃ A' c',e=.returned (.slice A' n c')∧Ow w' w.heap.size 2 A' n c' ((ts.map (·.1)).map (Value.int .i64))∧Below w.heap.size w w':=by
 have hl:ts.length=n:=by have:=hr.len;rw [lcs_len] at this;omega
 have HL:=hide hl
 clear hl
 go_enter Tryz.func208,Tryz.ntmps208
 go_wp2_with (refine mk (n:=n) (k:=n) tr_.elI64 (Below.refl w.heap.size _) (Nat.le_refl _) (Nat.le_refl _) rfl (.tmp 7) (.tmp 7) rfl .i64 .i64 _ _ rfl rfl rfl rfl (Nat.le_refl _) (by omega) (by simp [maxLen];omega) ?_;intro w1 ho1 hb1)
 have h0:(List.replicate n (Value.int .i64 0))=(rowL_ ts n 0).map (Value.int .i64):=by simp [rowL_]
 rw [h0] at ho1
 clear h0
 go_loopw [11] (fun i wr=>∃ (q:Nat),q≤n∧i=.int .i64 (q:Nat)∧Hid (Ow wr w.heap.size 2 (some ⟨w.heap.size,0,none⟩) n n ((rowL_ ts n q).map (Value.int .i64)))∧Hid (Below w.heap.size w wr)) (fun i _=>n - (intOf i).toNat)
 case atStart=>exact ⟨0,by omega,rfl,hide ho1,hide hb1⟩
 case round =>
  clear ho1 hb1
  obtain ⟨q,hqm,rfl,ho,hw⟩:=hrel
  by_cases hlt:q<n
  ·obtain ⟨ad,t,e1,ht,f0,f1⟩:=(hr.below hw.out).lp hlt
   subst e1
   have hs:=hide (rowL_set HL.out hlt ht)
   obtain ⟨t1,t2⟩:=t
   dsimp only at f0 f1 hs
   clear ht
   have kx:=hide (Ro.new wr #[.int .i64 t1,.int .i32 t2] 113)
   replace hw:=hide (bl_alloc hw.out (.cells #[.int .i64 t1,.int .i32 t2] 113))
   replace ho:=hide (ho.out.alloc (.cells #[.int .i64 t1,.int .i32 t2] 113))
   go_upto_region 5 with fail
   generalize wr.heap.size=gx at *
   generalize wr.alloc (.cells #[.int .i64 t1,.int .i32 t2] 113)=u at *
   obtain ⟨y0,_⟩:=ro_cf kx.out 0 _ rfl
   have hset:=ho.out.set q (.int .i64 t1)
   rw [← List.map_set,hs.out] at hset
   have hcl:=ho.out.cell q hlt
   rw [List.getElem?_map,rowL_at HL.out hlt,Option.map_some] at hcl
   have hfr:=ho.out.frozen q
   have hbs:=hide (bl_set (g:=w.heap.size) (o:=q) hw.out (Nat.le_refl _) (.int .i64 t1))
   replace hset:=hide hset
   clear ho hw hs f0 f1 kx
   go_wp2
   go_roundw
   case rel=>exact ⟨q+1,by omega,by go_num,hset,hbs⟩
   case measure=>simp [intOf];omega
  ·obtain rfl:q=n:=by omega
   have e0:rowL_ ts q q=ts.map (·.1):=by unfold rowL_;rw [List.take_of_length_le (by rw [HL.out];exact Nat.le_refl _)];simp
   have:=ho.out
   rw [e0] at this
   go_wp2
   go_ret
   exact ⟨_,_,rfl,this,hw.out⟩
theorem fnz2 (b1 b2:Bool) (e:Int):fnz [rq b1 e,rq b2 e]=rq (b1 && b2) e:=by
 cases b1 <;> cases b2 <;> simp [fnz,rq] <;> (intro h;exact h.symm)
theorem fT_lf (k:Nat) (ts:List LP):fT k (ts.map (·.1))=lfit k ts:=by
 unfold fT lfit
 rw [List.all_map]
 rfl
theorem checkTimes (S:BkS) (b:Bk) (k:Nat) (w:World) (hk:k=4∨k=8) (h:IsBk w S b) (hs:S.small):Calls Tryz.prog 168 #[bkV S,.int .i64 (k:Int)] w fun e w'=>e=.returned (.int .i64 (rq (fT k b.ti && lfit k b.lp) 18))∧Below w.heap.size w w':=by
 have r0:=h.ti
 have r4:=h.lp
 have o0:=h.oti
 have k0:=h.ok.ti
 have k4:=h.ok.lp
 obtain ⟨s0,_,_,_,s4,_,_⟩:=hs
 clear h
 rw [← fT_lf]
 generalize b.ti=l0 at *
 generalize b.lp=ts at *
 obtain ⟨⟨A0,n0,c0⟩,⟨A1,n1,c1⟩,⟨A2,n2,c2⟩,⟨A3,n3,c3⟩,⟨A4,n4,c4⟩,⟨A5,n5,c5⟩,⟨A6,n6,c6⟩⟩:=S
 dsimp only [bkV]
 obtain ⟨cs,hcs⟩:∃ cs:Array Value,cs=#[.slice A0 n0 c0,.slice A1 n1 c1,.slice A2 n2 c2,.slice A3 n3 c3,.slice A4 n4 c4,.slice A5 n5 c5,.slice A6 n6 c6]:=⟨_,rfl⟩
 have q0:=hide (show cs[0]?=some (.slice A0 n0 c0) by rw [hcs];rfl)
 have q1:=hide (show cs[1]?=some (.slice A1 n1 c1) by rw [hcs];rfl)
 have q2:=hide (show cs[2]?=some (.slice A2 n2 c2) by rw [hcs];rfl)
 have q3:=hide (show cs[3]?=some (.slice A3 n3 c3) by rw [hcs];rfl)
 have q4:=hide (show cs[4]?=some (.slice A4 n4 c4) by rw [hcs];rfl)
 have q5:=hide (show cs[5]?=some (.slice A5 n5 c5) by rw [hcs];rfl)
 have q6:=hide (show cs[6]?=some (.slice A6 n6 c6) by rw [hcs];rfl)
 rw [← hcs]
 have k3:=hide (Ro.new w cs 28)
 have hb:=hide (bl_new w (.cells cs 28))
 dsimp only at r0 r4 o0 s0 s4
 replace r0:=hide (r0.below hb.out)
 replace r4:=hide (r4.below hb.out)
 have F1:=hide (fun w h=>tr_.Fit A0 n0 c0 l0 k k w rfl hk (by omega) o0.1 h k0)
 have F2:=hide (fun w A c hA h=>tr_.Fit A n4 c (ts.map (·.1)) k k w rfl hk (by omega) hA h (fun v hv=>by
  obtain ⟨t,ht,rfl⟩:=List.mem_map.1 hv
  exact ⟨(k4 t ht).1,(k4 t ht).2.1⟩))
 have L:=hide (fun w h=>leapTimes A4 n4 c4 ts w (by omega) h)
 generalize fT k l0=b1 at *
 generalize fT k (ts.map (·.1))=b2 at *
 rw [← fnz2]
 have C1:=hide (fun w=>require b1 18 w)
 have C2:=hide (fun w=>require b2 18 w)
 generalize rq b1 18=x1 at *
 generalize rq b2 18=x2 at *
 have O:=hide (fun B w (h:Ro w B #[.int .i64 x1,.int .i64 x2] 33)=>or_ [x1,x2] 2 B w (rd_roV (cs:=[.int .i64 x1,.int .i64 x2]) h) (by decide))
 generalize fnz [x1,x2]=r at *
 clear hcs o0 k0 k4 hk s0 s4
 go_enter Tryz.func168,Tryz.ntmps168
 go_upto_region 1 with fail
 generalize (w.alloc (.cells cs 28))=u at *
 refine wp_region_held_drew (S:=fun w'=>Hid (Ro w' (w.heap.size) (cs) 28)∧Hid (Rd w' A0 n0 (l0.map (Value.int .i64)))∧Hid (Rk 2 w' A4 n4 (lcs ts))∧Hid (Below w.heap.size w w')) (by kernel_rfl) (⟨hide k3.out.drew,hide r0.out.drew,hide r4.out.drew,hide (bl_drew hb.out)⟩) (fun hHeld=>?_)
 generalize u.drew=u0 at *
 refine tkV 0 (some 5) (v:=?_) ?_ ?_
 rotate_left
 ·((intro w hSw;go_simp) <;> with_reducible rfl)
 try simp only [Act.put,sI1,sI2,sI3]
 refine tkV 1 (some 6) (v:=?_) ?_ ?_
 rotate_left
 ·((intro w hSw;obtain ⟨y0,_⟩:=ro_cf hSw.1.out 0 _ q0.out;go_simp) <;> with_reducible rfl)
 try simp only [Act.put,sI1,sI2,sI3]
 refine tkV 2 (some 7) (v:=?_) ?_ ?_
 rotate_left
 ·((intro w hSw;go_simp) <;> with_reducible rfl)
 try simp only [Act.put,sI1,sI2,sI3]
 refine tkV 5 (some 10) (v:=?_) ?_ ?_
 rotate_left
 ·((intro w hSw;go_simp) <;> with_reducible rfl)
 try simp only [Act.put,sI1,sI2,sI3]
 refine tkV 6 (some 11) (v:=?_) ?_ ?_
 rotate_left
 ·((intro w hSw;obtain ⟨y4,_⟩:=ro_cf hSw.1.out 4 _ q4.out;go_simp) <;> with_reducible rfl)
 try simp only [Act.put,sI1,sI2,sI3]
 refine tkV 8 (some 13) (v:=?_) ?_ ?_
 rotate_left
 ·((intro w hSw;go_simp) <;> with_reducible rfl)
 try simp only [Act.put,sI1,sI2,sI3]
 refine wpAnyH_ready (rs:=[3]) (by kernel_rfl) (by simp) ?_
 refine AllReadyH.cons rfl (fun K hK=>?_) (AllReadyH.nil)
 go_simp
 refine (F1.out _ hHeld.2.1.out).mono ?_
 rintro e v1 ⟨rfl,h1'⟩
 refine hK.out _ _ (⟨hide (hHeld.1.out.below h1'),hide (hHeld.2.1.out.below h1'),hide (hHeld.2.2.1.out.below h1'),hide (bel_next hHeld.2.2.2.out h1')⟩) (fun hHeld=>?_)
 clear hK K h1'
 try simp only [Act.put,sI1,sI2,sI3]
 refine wpAnyH_ready (rs:=[4]) (by kernel_rfl) (by simp) ?_
 refine AllReadyH.cons rfl (fun K hK=>?_) (AllReadyH.nil)
 go_simp
 refine (C1.out _).mono ?_
 rintro e v2 ⟨rfl,h1'⟩
 refine hK.out _ _ (⟨hide (hHeld.1.out.below h1'),hide (hHeld.2.1.out.below h1'),hide (hHeld.2.2.1.out.below h1'),hide (bel_next hHeld.2.2.2.out h1')⟩) (fun hHeld=>?_)
 clear hK K h1'
 try simp only [Act.put,sI1,sI2,sI3]
 refine wpAnyH_ready (rs:=[7]) (by kernel_rfl) (by simp) ?_
 refine AllReadyH.cons rfl (fun K hK=>?_) (AllReadyH.nil)
 go_simp
 refine (L.out _ hHeld.2.2.1.out).mono ?_
 rintro e v3 ⟨A',c',rfl,ho',h1'⟩;have nil':=hide ho'.nilcap;have rd':=hide ho'.rd;clear ho'
 refine hK.out _ _ (⟨hide (hHeld.1.out.below h1'),hide (hHeld.2.1.out.below h1'),hide (hHeld.2.2.1.out.below h1'),hide (bel_next hHeld.2.2.2.out h1')⟩) (fun hHeld=>?_)
 clear hK K h1'
 try simp only [Act.put,sI1,sI2,sI3]
 refine wpAnyH_ready (rs:=[9]) (by kernel_rfl) (by simp) ?_
 refine AllReadyH.cons rfl (fun K hK=>?_) (AllReadyH.nil)
 go_simp
 refine (F2.out _ A' c' nil'.out rd'.out).mono ?_
 rintro e v4 ⟨rfl,h1'⟩;clear nil' rd'
 refine hK.out _ _ (⟨hide (hHeld.1.out.below h1'),hide (hHeld.2.1.out.below h1'),hide (hHeld.2.2.1.out.below h1'),hide (bel_next hHeld.2.2.2.out h1')⟩) (fun hHeld=>?_)
 clear hK K h1'
 try simp only [Act.put,sI1,sI2,sI3]
 refine wpAnyH_ready (rs:=[10]) (by kernel_rfl) (by simp) ?_
 refine AllReadyH.cons rfl (fun K hK=>?_) (AllReadyH.nil)
 go_simp
 refine (C2.out _).mono ?_
 rintro e v5 ⟨rfl,h1'⟩
 refine hK.out _ _ (⟨hide (hHeld.1.out.below h1'),hide (hHeld.2.1.out.below h1'),hide (hHeld.2.2.1.out.below h1'),hide (bel_next hHeld.2.2.2.out h1')⟩) (fun hHeld=>?_)
 clear hK K h1'
 try simp only [Act.put,sI1,sI2,sI3]
 refine wpAnyH_ready (rs:=[11]) (by kernel_rfl) (by simp) ?_
 refine AllReadyH.cons rfl (fun K hK=>?_) (AllReadyH.nil)
 go_simp
 have hz_s:=hide (Ro.new v5 #[.int .i64 x1,.int .i64 x2] 33)
 refine hK.out _ _ (⟨hide (hHeld.1.out.alloc _),hide (hHeld.2.1.out.below (bl_new _ (.cells #[.int .i64 x1,.int .i64 x2] 33))),hide (hHeld.2.2.1.out.below (bl_new _ (.cells #[.int .i64 x1,.int .i64 x2] 33))),hide (bl_alloc hHeld.2.2.2.out _)⟩) (fun hHeld=>?_)
 clear hK K
 generalize v5.heap.size=g_s at *
 generalize v5.alloc (.cells #[.int .i64 x1,.int .i64 x2] 33)=v6 at *
 try simp only [Act.put,sI1,sI2,sI3]
 refine wpAnyH_ready (rs:=[12]) (by kernel_rfl) (by simp) ?_
 refine AllReadyH.cons rfl (fun K hK=>?_) (AllReadyH.nil)
 go_simp
 refine (O.out g_s _ hz_s.out).mono ?_
 rintro e v7 ⟨rfl,h1'⟩
 replace hz_s:=hide (hz_s.out.below h1')
 refine hK.out _ _ (⟨hide (hHeld.1.out.below h1'),hide (hHeld.2.1.out.below h1'),hide (hHeld.2.2.1.out.below h1'),hide (bel_next hHeld.2.2.2.out h1')⟩) (fun hHeld=>?_)
 clear hK K h1'
 try simp only [Act.put,sI1,sI2,sI3]
 refine tkV 13 (some 4) (v:=?_) ?_ ?_
 rotate_left
 ·((intro w hSw;go_simp) <;> with_reducible rfl)
 try simp only [Act.put,sI1,sI2,sI3]
 refine wpAnyH_done (by kernel_rfl) ?_ _
 go_wp2_with fail
 go_ret
 exact ⟨rfl,hHeld.2.2.2.out⟩
theorem checkIndex (S:BkS) (b:Bk) (w:World) (h:IsBk w S b) (hs:S.small):Calls Tryz.prog 172 #[bkV S] w fun e w'=>e=.returned (.int .i64 (rq (ixOk b.ty.length b.ix) 8))∧Below w.heap.size w w':=by
 have r1:=h.ix
 have k1:=hide h.ok.ix
 have l1:=h.lens.2.1
 have l2:=h.lens.2.2.1
 obtain ⟨_,s1,s2,_,_,_,_⟩:=hs
 clear h
 rw [l2]
 generalize b.ix=xs at *
 obtain ⟨⟨A0,n0,c0⟩,⟨A1,n1,c1⟩,⟨A2,n2,c2⟩,⟨A3,n3,c3⟩,⟨A4,n4,c4⟩,⟨A5,n5,c5⟩,⟨A6,n6,c6⟩⟩:=S
 dsimp only [bkV]
 obtain ⟨cs,hcs⟩:∃ cs:Array Value,cs=#[.slice A0 n0 c0,.slice A1 n1 c1,.slice A2 n2 c2,.slice A3 n3 c3,.slice A4 n4 c4,.slice A5 n5 c5,.slice A6 n6 c6]:=⟨_,rfl⟩
 have q0:=hide (show cs[0]?=some (.slice A0 n0 c0) by rw [hcs];rfl)
 have q1:=hide (show cs[1]?=some (.slice A1 n1 c1) by rw [hcs];rfl)
 have q2:=hide (show cs[2]?=some (.slice A2 n2 c2) by rw [hcs];rfl)
 have q3:=hide (show cs[3]?=some (.slice A3 n3 c3) by rw [hcs];rfl)
 have q4:=hide (show cs[4]?=some (.slice A4 n4 c4) by rw [hcs];rfl)
 have q5:=hide (show cs[5]?=some (.slice A5 n5 c5) by rw [hcs];rfl)
 have q6:=hide (show cs[6]?=some (.slice A6 n6 c6) by rw [hcs];rfl)
 rw [← hcs]
 have k3:=hide (Ro.new w cs 28)
 have hb:=hide (bl_new w (.cells cs 28))
 dsimp only at r1 l1 l2 s1 s2
 replace r1:=hide (r1.below hb.out)
 obtain ⟨r,hr⟩:∃ r,r=rq (ixOk n2 xs) 8:=⟨_,rfl⟩
 rw [← hr]
 replace hr:=hide hr
 replace l1:=hide l1
 clear hcs l2
 go_enter Tryz.func172,Tryz.ntmps172
 go_upto_region 1 with fail
 generalize (w.alloc (.cells cs 28))=u at *
 obtain ⟨y1,_⟩:=ro_cf k3.out 1 _ q1.out
 obtain ⟨y2,_⟩:=ro_cf k3.out 2 _ q2.out
 go_upto_region 2 with fail
 go_loop [8] (fun iv=>∃ j:Nat,j≤n1∧iv=.int .i64 (j:Nat)∧Hid (ixOk n2 (xs.take j)=true)) (fun i=>n1 - (intOf i).toNat)
 case atStart=>exact ⟨0,by omega,rfl,hide rfl⟩
 case round =>
  obtain ⟨j,hj,rfl,h5⟩:=hrel
  by_cases hlt:j<n1
  ·obtain ⟨ad,e1,hc⟩:=r1.out.int hlt
   subst e1
   have hx:xs[j]?=some (xs[j]?.getD 0):=by rw [List.getElem?_eq_getElem (by rw [l1.out];exact hlt)];rfl
   have hst:=ix_step n2 xs j _ hx
   rw [h5.out,Bool.true_and] at hst
   have hno:=hide (fun (hz:(n2:Int)≤xs[j]?.getD 0)=>ix_no hx hz)
   have hby:=k1.out j
   generalize xs[j]?.getD 0=x at *
   clear hx
   have wx_:IntKind.i64.wrap x=x:=by rw [IntKind.wrap_i64];omega
   have hst2:=hide hst
   clear hst
   obtain ⟨z0,z1⟩:=hby
   by_cases hz:x<(n2:Int)
   ·have d1:decide ((n2:Int)≤x)=false:=decide_eq_false (by omega)
    have hs2:=hide (hst2.out.trans (decide_eq_true hz))
    clear hno hst2
    go_wp2
    go_round
    case rel=>exact ⟨j+1,by omega,by go_num,hs2⟩
    case measure=>simp [intOf];omega
   ·have d1:decide ((n2:Int)≤x)=true:=decide_eq_true (by omega)
    obtain rfl:r=8:=by rw [hr.out,hno.out (by omega)];rfl
    clear hno hst2
    replace hz:=hide hz
    go_wp2
    go_ret
    exact ⟨rfl,hb.out⟩
  ·obtain rfl:n1=j:=by omega
   rw [List.take_of_length_le (by rw [l1.out];exact Nat.le_refl _)] at h5
   obtain rfl:r=0:=by rw [hr.out,h5.out];rfl
   go_wp2
   go_ret
   exact ⟨rfl,hb.out⟩
end vd_
end Go.Proofs.YtpapfpcehlhgeaaGreatDoor
