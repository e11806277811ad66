/-
  Texts of mine in one file: Be, Same1, Ref1, Ref16, Ref12, Ref12n, Ref20b, VfM, HdMath, PtNl, TzM, TzP, TzH, TzB, Ref12p, DsMath2, Ref12b, DsC, Nl, Cu, Cur, R2. Their conditions stand in the theorems.
-/
import Derived.Test.YtpapfpcehlhgeaaGreatDoorRows
import Derived.Test.YtpapfpcehlhgeaaGreatDoorE01
import Derived.BigQuiet
import Derived.Test.YtpapfpcehlhgeaaGreatDoorE02
import Derived.Deep.RegionHeld3
import Derived.Deep.DeepCutAuto
import Derived.Deep.RegionLaw
import Derived.Lib.BytesEntry
namespace Go.Proofs.YtpapfpcehlhgeaaGreatDoor
set_option linter.unusedVariables false
set_option linter.unusedSimpArgs false
set_option maxRecDepth 100000
set_option maxHeartbeats 16000000
open Go.ChangeShapes Go.WideShapes Go.ChangeAt Go.RowKit
theorem elU8:ElT Tryz.prog 22 5 (.int .u8 0) 1:=⟨Tryz.underlying22,by kernel_rfl,rfl⟩
namespace be_
theorem isWidth (n:Int) (w:World) (h:n=1∨n=4∨n=8):Calls Tryz.prog 152 #[.int .i64 n] w fun e w'=>e=.returned (.bool true)∧w=w':=by
 rcases h with rfl | rfl | rfl
 all_goals
  go_enter Tryz.func152,Tryz.ntmps152
  go_wp2
  go_ret
  exact ⟨rfl,rfl⟩
theorem exists_yes (A:Option Addr) (n c:Nat) (off k:Int) (w:World) (h:k=1∨k=4∨k=8) (hn:n≤9223372036854775807) (h0:0≤off) (h1:off+k≤n) :
 Calls Tryz.prog 225 #[.slice A n c,.int .i64 off,.int .i64 k] w fun e w'=>e=.returned (.bool true)∧w=w':=by
 have hk:1≤k∧k≤8:=by omega
 obtain ⟨hk1,hk2⟩:=hk
 have H:=hide h;clear h
 go_enter Tryz.func225,Tryz.ntmps225
 go_wp2_with (go_at_call 152;refine (isWidth _ _ H.out).mono ?_;rintro e w' ⟨rfl,rfl⟩)
 go_ret
 exact ⟨retb (by simp;omega),rfl⟩
theorem exists_no (A:Option Addr) (n c:Nat) (off k:Int) (w:World) (h:k=1∨k=4∨k=8) (hn:n≤9223372036854775807) (h1:off<0∨(n:Int)<off+k) :
 Calls Tryz.prog 225 #[.slice A n c,.int .i64 off,.int .i64 k] w fun e w'=>e=.returned (.bool false)∧w=w':=by
 have hk:1≤k∧k≤8:=by omega
 obtain ⟨hk1,hk2⟩:=hk
 have H:=hide h;clear h
 by_cases h0:off<0
 ·clear h1
  go_enter Tryz.func225,Tryz.ntmps225
  go_wp2_with (go_at_call 152;refine (isWidth _ _ H.out).mono ?_;rintro e w' ⟨rfl,rfl⟩)
  go_ret
  exact ⟨rfl,rfl⟩
 ·have h2:(n:Int)<off+k:=by omega
  clear h1
  go_enter Tryz.func225,Tryz.ntmps225
  go_wp2_with (go_at_call 152;refine (isWidth _ _ H.out).mono ?_;rintro e w' ⟨rfl,rfl⟩)
  go_ret
  exact ⟨retb (by simp;omega),rfl⟩
theorem signed (u:Int) (k:Int) (w:World) (h0:0≤u) (h1:u<18446744073709551616) (hn:k=1∨k=4∨k=8) :
 Calls Tryz.prog 232 #[.int .u64 u,.int .i64 k] w fun e w'=>e=.returned (.int .i64 (sgn k u))∧w=w':=by
 rcases hn with rfl | rfl | rfl
 all_goals
  go_enter Tryz.func232,Tryz.ntmps232
  go_wp2
  go_ret
  refine ⟨reti ?_,rfl⟩
  simp [sgn,wrap64,IntKind.wrap,IntKind.bits,IntKind.signed] <;> omega
theorem Uint_no (A:Option Addr) (n c:Nat) (off k:Int) (w:World) (h:k=1∨k=4∨k=8) (hn:n≤9223372036854775807) (h1:off<0∨(n:Int)<off+k) :
 Calls Tryz.prog 199 #[.slice A n c,.int .i64 off,.int .i64 k] w fun e w'=>e=.returned (.tuple #[.int .u64 0,.bool false])∧w=w':=by
 have H:=hide h;clear h
 have H1:=hide h1;clear h1
 go_enter Tryz.func199,Tryz.ntmps199
 go_wp2_with (go_at_call 225;refine (exists_no _ _ _ _ _ _ H.out hn H1.out).mono ?_;rintro e w' ⟨rfl,rfl⟩)
 go_ret2
 exact ⟨rfl,rfl⟩
theorem Uint_yes (A:Option Addr) (n c:Nat) (l:List Int) (off k:Int) (w:World) (h:k=1∨k=4∨k=8) (hn:n≤9223372036854775807) (hoff:0≤off) (h1:off+k≤n)
 (hr:Rd w A n (l.map (Value.int .u8))) (hl:Bytes l) :
 Calls Tryz.prog 199 #[.slice A n c,.int .i64 off,.int .i64 k] w fun e w'=>e=.returned (.tuple #[.int .u64 (uval (fld l off.toNat k.toNat)),.bool true])∧w=w':=by
 obtain ⟨off,rfl⟩:=Int.eq_ofNat_of_zero_le hoff
 obtain ⟨k,rfl⟩:∃ j:Nat,k=j:=⟨k.toNat,by omega⟩
 clear hoff
 simp only [Int.toNat_natCast]
 have hk:1≤k∧k≤8:=by omega
 obtain ⟨hk1,hk2⟩:=hk
 have H:=hide h;clear h
 have hlen:l.length=n:=by simpa using hr.len
 have Hlen:=hide hlen;clear hlen
 obtain ⟨ad,rfl,-⟩:=hr.int (i:=off) (by omega)
 go_enter Tryz.func199,Tryz.ntmps199
 go_wp2_with (go_at_call 225;refine (exists_yes _ _ _ _ _ _ H.out hn (by omega) (by omega)).mono ?_;rintro e w' ⟨rfl,rfl⟩)
 go_loop [8,16] (fun u i=>∃ j:Nat,j≤k∧i=.int .i64 j∧u=.int .u64 (uval (fld l off j))) (fun _ i=>k - (intOf i).toNat)
 case atStart=>exact ⟨0,by omega,rfl,by simp [fld_zero,uval]⟩
 case round =>
  obtain ⟨j,hj,rfl,rfl⟩:=hrel
  by_cases hlt:j<k
  ·obtain ⟨ad',e,hc⟩:=hr.int (i:=off+j) (by omega)
   cases e
   obtain ⟨b0,b1⟩:=hl (off+j)
   have hst:=hide (fld_step l off j (by rw [Hlen.out];omega))
   obtain ⟨u0,u1⟩:=uval_bd7 (fld l off j) (fld_bytes hl _ _) (by rw [fld_len _ _ _ (by rw [Hlen.out];omega)];omega)
   have hso:=hide (shl_or _ _ u0 u1 b0 b1)
   go_wp2
   go_round
   case rel=>exact ⟨j+1,by omega,by go_num,by rw [hst.out,uval_snoc,hso.out]⟩
   case measure=>simp [intOf];omega
  ·obtain rfl:j=k:=by omega
   go_wp2
   go_ret2
   exact ⟨rfl,rfl⟩
theorem Int_yes (A:Option Addr) (n c:Nat) (l:List Int) (off k:Int) (w:World) (h:k=1∨k=4∨k=8) (hn:n≤9223372036854775807) (hoff:0≤off) (h1:off+k≤n)
 (hr:Rd w A n (l.map (Value.int .u8))) (hl:Bytes l) :
 Calls Tryz.prog 205 #[.slice A n c,.int .i64 off,.int .i64 k] w fun e w'=>e=.returned (.tuple #[.int .i64 (sgn k (uval (fld l off.toNat k.toNat))),.bool true])∧w=w':=by
 have hb:=uval_bd8 (fld l off.toNat k.toNat) (fld_bytes hl _ _) (by simp [fld];omega)
 obtain ⟨u0,u1⟩:=hb
 have H:=hide h;clear h
 have U:=Uint_yes A n c l off k w H.out hn hoff h1 hr hl
 generalize uval (fld l off.toNat k.toNat)=u at *
 have U':=hide U;clear U
 go_enter Tryz.func205,Tryz.ntmps205
 go_wp2_with (first
  | (go_at_call 199;refine U'.out.mono ?_;rintro e w' ⟨rfl,rfl⟩)
  | (go_at_call 232;refine (signed _ _ _ u0 u1 H.out).mono ?_;rintro e w' ⟨rfl,rfl⟩))
 go_ret2
 exact ⟨rfl,rfl⟩
theorem Append (A:Option Addr) (n c:Nat) (l:List Int) (k v:Int) (w:World) (h:k=1∨k=4∨k=8) (hn:n≤1000000) (hr:Rd w A n (l.map (Value.int .u8))) (hv0:0≤v) (hv1:v<18446744073709551616) :
 Calls Tryz.prog 111 #[.slice A n c,.int .i64 k,.int .u64 v] w fun e w'=>∃ A' c',e=.returned (.slice A' (n+k.toNat) c') ∧
  Ow w' w.heap.size 5 A' (n+k.toNat) c' ((l++be k.toNat v).map (Value.int .u8))∧Below w.heap.size w w':=by
 obtain ⟨j,rfl⟩:∃ j:Nat,k=j:=⟨k.toNat,by omega⟩
 have hk:1≤j∧j≤8:=by omega
 obtain ⟨hk1,hk2⟩:=hk
 simp only [Int.toNat_natCast]
 have Hh:=hide h;clear h
 have hlen:l.length=n:=by simpa using hr.len
 have Hlen:=hide hlen;clear hlen
 have Hone:=hide (oneCells .u8 l)
 go_enter Tryz.func111,Tryz.ntmps111
 go_wp2_with (first
  | (go_at_call 152;refine (isWidth _ _ (Hh.out)).mono ?_;rintro e w' ⟨rfl,rfl⟩)
  | (refine mk (n:=n) (k:=n+j) elU8 (Below.refl w.heap.size _) (Nat.le_refl _) (Nat.le_refl _) rfl (.tmp 13) (.tmp 17) rfl .i64 .i64 _ _ rfl rfl (by omega) (by omega) (by omega) (by omega) (by simp [maxLen];omega) ?_;intro w1 ho1 hb1)
  | (refine cp elU8 ho1 hb1 (Nat.le_refl _) (hr.below hb1) (Nat.le_refl _) (.tmp 19) (.tmp 20) rfl rfl rfl rfl Hone.out ?_;intro w2 ho2 hb2))
 go_loopw [7,23] (fun out i wr=>∃ k A' c',k≤j∧i=.int .i64 (k:Nat)∧out=.slice A' (n+k) c'∧Ow wr w.heap.size 5 A' (n+k) c' ((l++(be j v).take k).map (Value.int .u8))∧Below w.heap.size w wr) (fun _ i _=>j - (intOf i).toNat)
 case atStart=>exact ⟨0,_,_,by omega,rfl,rfl,by simpa [Hlen.out] using ho2,hb2⟩
 case round =>
  obtain ⟨k,A',c',hk,rfl,rfl,ho,hb⟩:=hrel
  by_cases hlt:k<j
  ·have hst:=hide (app_step l j v k hlt)
   go_wp2_with (refine ap1 elU8 ho hb (Nat.le_refl _) (.tmp 26) (.tmp 35) _ rfl rfl rfl rfl rfl (by simp [maxLen];omega) (by omega) ?_;intro A2 c2 w3 ho3 hb3)
   rw [hst.out] at ho3
   go_roundw
   case rel=>exact ⟨k+1,_,_,by omega,by go_num,rfl,ho3,hb3⟩
   case measure=>simp [intOf];omega
  ·obtain rfl:k=j:=by omega
   rw [List.take_of_length_le (by rw [be_len];omega)] at ho
   go_wp2
   go_ret
   exact ⟨_,_,rfl,by simpa using ho,hb⟩
theorem Fits (v k:Int) (w:World) (h:k=1∨k=4∨k=8) (hv0:-9223372036854775808≤v) (hv1:v<9223372036854775808) :
 Calls Tryz.prog 233 #[.int .i64 v,.int .i64 k] w fun e w'=>e=.returned (.bool (fitsB k v))∧w=w':=by
 have hw0:0≤IntKind.u64.wrap v∧IntKind.u64.wrap v<18446744073709551616:=by rw [IntKind.wrap_u64];omega
 have hfin:(sgn k (IntKind.u64.wrap v) == v)=fitsB k v:=by
  rw [IntKind.wrap_u64,Bool.eq_iff_iff,beq_iff_eq]
  unfold fitsB
  simp only [decide_eq_true_eq]
  rcases h with rfl | rfl | rfl <;> simp [sgn] <;> omega
 obtain ⟨u0,u1⟩:=hw0
 have H:=hide h;clear h
 have S:=hide (fun w=>signed (IntKind.u64.wrap v) k w u0 u1 H.out)
 have HF:=hide hfin;clear hfin u0 u1
 go_enter Tryz.func233,Tryz.ntmps233
 go_wp2_with (first
  | (go_at_call 152;refine (isWidth _ _ H.out).mono ?_;rintro e w' ⟨rfl,rfl⟩)
  | (go_at_call 232;refine (S.out _).mono ?_;rintro e w' ⟨rfl,rfl⟩))
 go_ret
 exact ⟨retb HF.out,rfl⟩
end be_
namespace r1_
theorem Same (A A':Option Addr) (n c n' c':Nat) (l:List Int) (w:World) (hn:n≤9223372036854775807) (hr:Rd w A n (l.map (Value.int .u8))) (hr':Rd w A' n' (l.map (Value.int .u8))) :
 Calls Tryz.prog 15 #[.slice A n c,.slice A' n' c'] w fun e w'=>e=.returned (.bool true)∧Below w.heap.size w w':=by
 obtain rfl:n'=n:=by rw [← hr.len,← hr'.len]
 go_enter Tryz.func15,Tryz.ntmps15
 go_wp2
 go_loopw [5] (fun i wr=>∃ k:Nat,k≤n'∧i=.int .i64 (k:Nat)∧Below w.heap.size w wr) (fun i _=>n' - (intOf i).toNat)
 case atStart=>exact ⟨0,by omega,rfl,Below.refl _ _⟩
 case round =>
  obtain ⟨k,hk,rfl,hb⟩:=hrel
  by_cases hlt:k<n'
  ·obtain ⟨ad,rfl,hc⟩:=(hr.below hb).int hlt
   obtain ⟨ad',rfl,hc'⟩:=(hr'.below hb).int hlt
   go_wp2
   go_quiet (fail)
   go_wp2
   go_roundw
   case rel=>exact ⟨k+1,by omega,by go_num,bel_drewN hb _⟩
   case measure=>simp [intOf];omega
  ·go_wp2
   go_ret
   exact ⟨rfl,hb⟩
end r1_
theorem Rk.tt {w:World} {A:Option Addr} {n:Nat} {ts:List TT} (h:Rk 3 w A n (tcs ts)) {i:Nat} (hi:i<n):∃ ad t,A=some ad∧ts[i]?=some t∧w.cell? (ad.add (i * 3))=some (.int .i32 t.1)∧w.cell? ⟨(ad.add (i * 3)).block,(ad.add (i * 3)).off+1,none⟩=some (.bool t.2.1)∧w.cell? ⟨(ad.add (i * 3)).block,(ad.add (i * 3)).off+2,none⟩=some (.int .u8 t.2.2):=by
 have hl:ts.length=n:=by have:=h.len;rw [tcs_len] at this;omega
 obtain ⟨ad,e,hc⟩:=h.2 (by omega)
 have ht:ts[i]?=some (ts[i]'(by omega)):=List.getElem?_eq_getElem (by omega)
 have g:=tcs_get ht
 have h1:=hc _ _ g.2.1
 have h2:=hc _ _ g.2.2
 rw [← addr_add] at h1 h2
 exact ⟨ad,_,e,ht,hc _ _ g.1,h1,h2⟩
theorem any_step {α:Type} (p:α→Bool) {ts:List α} {k:Nat} {t:α} (h:ts[k]?=some t):(ts.take (k+1)).any p=((ts.take k).any p || p t):=by
 have hl:=(List.getElem?_eq_some_iff.1 h).1
 rw [List.getElem?_eq_getElem hl] at h
 injection h with h
 rw [List.take_succ_eq_append_getElem hl,List.any_append,h]
 simp
theorem any_at {α:Type} (p:α→Bool) {ts:List α} {k:Nat} {t:α} (h:ts[k]?=some t) (hp:p t=true):ts.any p=true:=List.any_eq_true.2 ⟨t,List.mem_of_getElem? h,hp⟩
namespace r16_
end r16_
abbrev bys (xs:List Int):List Value:=xs.map (Value.int .u8)
theorem rd_at {w:World} {A:Option Addr} {n:Nat} {xs:List Int} (h:Rd w A n (bys xs)) {i:Nat} (hi:i<n):∃ ad x,A=some ad∧xs[i]?=some x∧w.cell? (ad.add i)=some (.int .u8 x):=by
 obtain ⟨ad,v,h1,h2,h3⟩:=h.at_ hi
 rw [List.getElem?_map] at h2
 cases hx:xs[i]? with
 | none=>rw [hx] at h2;simp at h2
 | some x=>rw [hx] at h2;simp at h2;subst h2;exact ⟨ad,x,h1,rfl,h3⟩
namespace r12_
end r12_
def satM (t c:Int):Int:=if 0<c∧t < -9223372036854775808+c then -9223372036854775808 else if c<0∧9223372036854775807+c<t then 9223372036854775807 else t - c
theorem satM_bd {t c:Int} (h0:-9223372036854775808≤t) (h1:t<9223372036854775808):-9223372036854775808≤satM t c∧satM t c<9223372036854775808:=by
 unfold satM
 split
 ·omega
 ·split <;> omega
namespace r20_
end r20_
def lastT (b:Bk):Int:=(b.ti[b.ti.length - 1]?).getD 0
def lastX (b:Bk):TT:=(b.ty[((b.ix[b.ti.length - 1]?).getD 0).toNat]?).getD (0,false,0)
noncomputable def onB (r:PR) (u:Int):Bool:=by
 classical exact decide (ruleS r.2.2.1 r.2.2.2.2.2.1 r.2.2.2.2.2.2 r.2.1 r.2.2.2.2.1 u)
theorem onB_iff (r:PR) (u:Int):onB r u=true ↔ ruleS r.2.2.1 r.2.2.2.2.2.1 r.2.2.2.2.2.2 r.2.1 r.2.2.2.2.1 u:=by
 unfold onB
 simp
def sameR (b:Bool) (so dof:Int) (std dst:ByteArray) (x:TT) (nm:ByteArray):Bool :=
 decide ((if b then dof else so)=x.1) && decide (b=x.2.1) && decide ((if b then dst else std)=nm)
noncomputable def agB (r:PR) (b:Bk):Bool :=
 sameR (onB r (satM (lastT b) (cr b.lp (lastT b)))) r.2.1 r.2.2.2.2.1 (mkS r.1) (mkS r.2.2.2.1) (lastX b) (bS (nameL b.ch (lastX b).2.2.toNat))
def exR (r:PR):Bool:=r.2.2.1 && (lateD r.2.2.2.2.2.1 || lateD r.2.2.2.2.2.2)
noncomputable def vFr (r:PR) (v:Int) (b:Bk):Int :=
 if v=2∧exR r=true then 16 else if b.ti.length=0 then 0 else if agB r b=true then 0 else 15
noncomputable def vF (l:List UInt8) (v:Int) (b:Bk):Int × Int :=
 if l=[] then (0,0) else match ptParse l with
 | .error x=>(14,(x:Int))
 | .ok r=>(vFr r v b,0)
def zB (b:Bk):Bool:=decide (b.ti.length+b.ix.length+b.ty.length+b.ch.length+b.lp.length+b.sd.length+b.ut.length=0)
theorem zB_eq (b:Bk):zB b=beqB b Bk.zero:=by
 unfold zB
 rw [Bool.eq_iff_iff,decide_eq_true_iff,beqB_iff]
 obtain ⟨a1,a2,a3,a4,a5,a6,a7⟩:=b
 constructor
 ·intro h
  dsimp only at h
  simp only [Bk.zero,Bk.mk.injEq]
  refine ⟨?_,?_,?_,?_,?_,?_,?_⟩
  all_goals exact List.length_eq_zero_iff.1 (by omega)
 ·intro h
  simp only [Bk.zero,Bk.mk.injEq] at h
  obtain ⟨rfl,rfl,rfl,rfl,rfl,rfl,rfl⟩:=h
  rfl
noncomputable def vFile (v:Int) (a b:Bk) (l:List UInt8):Int :=
 if v<1∨4<v then 4 else if vB a (decide (v=4)) 4≠0 then vB a (decide (v=4)) 4 else if v=1 then (if l=[]∧zB b=true then 0 else 18)
 else if vB b (decide (v=4)) 8≠0 then vB b (decide (v=4)) 8 else (vF l v b).1
theorem cr_bd {ts:List LP} (h:∀ t ∈ ts,lpOk t) (t:Int):-2147483648≤cr ts t∧cr ts t≤2147483647:=by
 have key:∀ n,-2147483648≤crN ts t n∧crN ts t n≤2147483647:=by
  intro n
  induction n with
  | zero=>simp [crN]
  | succ n ih =>
    unfold crN
    split
    ·unfold lr
     cases hx:ts[n]? with
     | none=>simp
     | some x =>
       have:=h x (List.mem_of_getElem? hx)
       unfold lpOk at this
       simp
       omega
    ·exact ih
 exact key _
theorem chk_lt {ts:List TT} {n:Int} (h:chk ts n=0) {t:TT} (ht:t ∈ ts):t.2.2<n:=by
 unfold chk at h
 split at h
 ·cases h
 ·split at h
  ·cases h
  ·rename_i h2
   rw [Bool.not_eq_true,List.any_eq_false] at h2
   have:=h2 t ht
   simp at this
   exact this
theorem BOk.last {b:Bk} {four:Bool} {k:Nat} (h:BOk b four k) (hb:b.ok) (hn:b.ti.length≠0) :
 ∃ (j q:Nat),b.ti[b.ti.length - 1]?=some (lastT b)∧b.ix[b.ti.length - 1]?=some (j:Int)∧b.ty[j]?=some (lastX b)∧j<b.ty.length∧(lastX b).2.2=(q:Int)∧q<b.ch.length∧b.ix.length=b.ti.length∧ttOk (lastX b)∧I64 (lastT b):=by
 have hc:=h.cnt
 unfold cntOk at hc
 simp only [Bool.and_eq_true,decide_eq_true_eq] at hc
 have hl:b.ix.length=b.ti.length:=hc.1.1.1.1
 have e1:b.ti[b.ti.length - 1]?=some (lastT b):=by
  unfold lastT
  rw [List.getElem?_eq_getElem (by omega)]
  rfl
 obtain ⟨v,e2⟩:∃ v,b.ix[b.ti.length - 1]?=some v:=⟨_,List.getElem?_eq_getElem (by omega)⟩
 have hm:=List.mem_of_getElem? e2
 have hv:=List.all_eq_true.1 h.ix v hm
 simp at hv
 have hv0:=hb.ix.mem v hm
 obtain ⟨j,rfl⟩:∃ j:Nat,v=(j:Int):=⟨v.toNat,by omega⟩
 have hj:j<b.ty.length:=by omega
 have e3:b.ty[j]?=some (lastX b):=by
  unfold lastX
  rw [e2]
  simp only [Option.getD_some,Int.toNat_natCast]
  rw [List.getElem?_eq_getElem hj]
  rfl
 have ht:=hb.ty _ (List.mem_of_getElem? e3)
 have hq:=chk_lt h.ty (List.mem_of_getElem? e3)
 have hq0:0≤(lastX b).2.2:=ht.2.2.1
 exact ⟨j,(lastX b).2.2.toNat,e1,e2,e3,hj,by omega,by omega,hl,ht,hb.ti _ (List.mem_of_getElem? e1)⟩
theorem vF_shape (l:List UInt8) (v:Int) (b:Bk):((vF l v b).1=14∧0≤(vF l v b).2∧(vF l v b).2≤l.length)∨((vF l v b).1≠14∧(vF l v b).2=0):=by
 unfold vF
 split
 ·exact .inr ⟨by decide,rfl⟩
 ·cases hp:ptParse l with
  | error x=>exact .inl ⟨rfl,by dsimp only;omega,by have:=ptParse_err hp;dsimp only;omega⟩
  | ok r =>
    refine .inr ⟨?_,rfl⟩
    dsimp only
    unfold vFr
    split
    ·decide
    ·split
     ·decide
     ·split <;> decide
def magicL:List Int:=[84,90,105,102]
def zeroL:List Int:=[0,0,0,0,0,0,0,0,0,0,0,0,0,0,0]
def verB (v:Int):Int:=if v=1 then 0 else 48+v
def verOf (x:Int):Int:=if x=0 then 1 else if x=50 then 2 else if x=51 then 3 else if x=52 then 4 else 0
structure Hd where
 ver:Int
 ut:Int
 sd:Int
 lp:Int
 tm:Int
 ty:Int
 ch:Int
def Hd0:Hd:=⟨0,0,0,0,0,0,0⟩
def U32 (x:Int):Prop:=0≤x∧x<4294967296
structure Hd.ok (h:Hd):Prop where
 v0:1≤h.ver
 v1:h.ver≤4
 a:U32 h.ut
 b:U32 h.sd
 c:U32 h.lp
 d:U32 h.tm
 e:U32 h.ty
 f:U32 h.ch
def Hd.con (h:Hd):Bool:=decide (¬ h.ty=0∧¬ h.ch=0∧(h.ut=0∨h.ut=h.ty)∧(h.sd=0∨h.sd=h.ty))
@[reducible] def Hd.val (h:Hd):Value:=.agg #[.int .i64 h.ver,.int .u32 h.ut,.int .u32 h.sd,.int .u32 h.lp,.int .u32 h.tm,.int .u32 h.ty,.int .u32 h.ch]
def encH (h:Hd):List Int:=magicL++(verB h.ver :: (zeroL++(be 4 h.ut++(be 4 h.sd++(be 4 h.lp++(be 4 h.tm++(be 4 h.ty++be 4 h.ch)))))))
theorem encH_len (h:Hd):(encH h).length=44:=rfl
def diffAt (a b:List Int):Nat:=((a.zip b).takeWhile (fun p=>p.1 == p.2)).length
theorem diffAt_le (a b:List Int):diffAt a b≤b.length:=by
 have h:=(List.takeWhile_sublist (l:=a.zip b) (fun p=>p.1 == p.2)).length_le
 rw [List.length_zip] at h
 unfold diffAt
 omega
def decHd (xs:List Int) (p:Nat):Hd:=⟨verOf (xs[p+4]?.getD 0),uval (fld xs (p+20) 4),uval (fld xs (p+24) 4),uval (fld xs (p+28) 4),uval (fld xs (p+32) 4),uval (fld xs (p+36) 4),uval (fld xs (p+40) 4)⟩
def decH (xs:List Int) (p:Nat):Hd × Int × Int × Int :=
 if xs.length<p+4 then (Hd0,p,1,xs.length)
 else if ¬ fld xs p 4=magicL then (Hd0,p,3,p+diffAt (fld xs p 4) magicL)
 else if xs.length<p+5 then (Hd0,p+4,1,xs.length)
 else if verOf (xs[p+4]?.getD 0)=0 then (Hd0,p+4,4,p+4)
 else if xs.length<p+20 then (Hd0,p+5,1,xs.length)
 else if ¬ fld xs (p+5) 15=zeroL then (Hd0,p+5,5,p+5+diffAt (fld xs (p+5) 15) zeroL)
 else if xs.length<p+44 then (Hd0,p+20+((xs.length - p - 20) / 4 * 4:Nat),1,xs.length)
 else if (decHd xs p).con then (decHd xs p,p+44,0,0)
 else (Hd0,p+44,6,p)
theorem be_uval4 {l:List Int} (h:Bytes l) (hl:l.length=4):be 4 (uval l)=l:=by
 match l,hl with
 | [a,b,c,d],_ =>
   have h0:=h 0
   have h1:=h 1
   have h2:=h 2
   have h3:=h 3
   simp at h0 h1 h2 h3
   have e:uval [a,b,c,d]=((a * 256+b) * 256+c) * 256+d:=by simp [uval]
   rw [e]
   show [_,_,_,_]=_
   simp
   omega
theorem uval_be4 {x:Int} (h:U32 x):uval (be 4 x)=x:=by
 rw [uval_be]
 obtain ⟨h0,h1⟩:=h
 show x % 4294967296=x
 omega
theorem uval4_bd {l:List Int} (h:Bytes l) (hl:l.length=4):U32 (uval l):=by
 have:=uval_bd l h
 rw [hl] at this
 exact this
theorem verOf_B {v:Int} (h0:1≤v) (h1:v≤4):verOf (verB v)=v:=by
 rcases (show v=1∨v=2∨v=3∨v=4 by omega) with rfl | rfl | rfl | rfl <;> rfl
theorem verB_Of {x:Int} (h:¬ verOf x=0):verB (verOf x)=x∧1≤verOf x∧verOf x≤4:=by
 unfold verOf at *
 split
 ·subst x;decide
 ·split
  ·subst x;decide
  ·split
   ·subst x;decide
   ·split
    ·subst x;decide
    ·rename_i a b c d;rw [if_neg a,if_neg b,if_neg c,if_neg d] at h;exact absurd rfl h
theorem fld_shift (f m:List Int) (i k:Nat):fld (f++m) (f.length+i) k=fld m i k:=by
 unfold fld
 rw [← List.drop_drop,List.drop_left]
theorem fld_split (xs:List Int) (p a b:Nat):fld xs p (a+b)=fld xs p a++fld xs (p+a) b:=by
 unfold fld
 rw [List.take_add,List.drop_drop]
theorem get_shift (f m:List Int) (i:Nat):(f++m)[f.length+i]?=m[i]?:=by
 rw [List.getElem?_append_right (by omega)]
 congr 1
 omega
theorem dec_enc (f t:List Int) (h:Hd) (hok:h.ok):decH (f++(encH h++t)) f.length=if h.con then (h,(f.length:Int)+44,0,0) else (Hd0,(f.length:Int)+44,6,(f.length:Int)):=by
 have hl:(f++(encH h++t)).length=f.length+44+t.length:=by rw [List.length_append,List.length_append,encH_len];omega
 have e0:fld (f++(encH h++t)) f.length 4=magicL:=by rw [show f.length=f.length+0 from rfl,fld_shift];rfl
 have e1:(f++(encH h++t))[f.length+4]?=some (verB h.ver):=by rw [get_shift];rfl
 have e2:fld (f++(encH h++t)) (f.length+5) 15=zeroL:=by rw [fld_shift];rfl
 have c1:uval (fld (f++(encH h++t)) (f.length+20) 4)=h.ut:=by rw [fld_shift,show fld (encH h++t) 20 4=be 4 h.ut from rfl,uval_be4 hok.a]
 have c2:uval (fld (f++(encH h++t)) (f.length+24) 4)=h.sd:=by rw [fld_shift,show fld (encH h++t) 24 4=be 4 h.sd from rfl,uval_be4 hok.b]
 have c3:uval (fld (f++(encH h++t)) (f.length+28) 4)=h.lp:=by rw [fld_shift,show fld (encH h++t) 28 4=be 4 h.lp from rfl,uval_be4 hok.c]
 have c4:uval (fld (f++(encH h++t)) (f.length+32) 4)=h.tm:=by rw [fld_shift,show fld (encH h++t) 32 4=be 4 h.tm from rfl,uval_be4 hok.d]
 have c5:uval (fld (f++(encH h++t)) (f.length+36) 4)=h.ty:=by rw [fld_shift,show fld (encH h++t) 36 4=be 4 h.ty from rfl,uval_be4 hok.e]
 have c6:uval (fld (f++(encH h++t)) (f.length+40) 4)=h.ch:=by rw [fld_shift,show fld (encH h++t) 40 4=be 4 h.ch from rfl,uval_be4 hok.f]
 have ed:decHd (f++(encH h++t)) f.length=h:=by
  unfold decHd
  rw [e1,c1,c2,c3,c4,c5,c6]
  show Hd.mk (verOf (verB h.ver)) _ _ _ _ _ _=_
  rw [verOf_B hok.v0 hok.v1]
 have hv:¬ verOf ((f++(encH h++t))[f.length+4]?.getD 0)=0:=by
  rw [e1]
  show ¬ verOf (verB h.ver)=0
  rw [verOf_B hok.v0 hok.v1]
  have:=hok.v0
  omega
 unfold decH
 rw [ed,if_neg (by omega),if_neg (not_not_intro e0),if_neg (by omega),if_neg hv,if_neg (by omega),if_neg (not_not_intro e2),if_neg (by omega)]
theorem dec_cases {xs:List Int} {p:Nat} (hB:Bytes xs) (hp:p≤xs.length) {h:Hd} {q e a:Int} (hd:decH xs p=(h,q,e,a)) :
 (e=0∧q=(p:Int)+44∧a=0∧p+44≤xs.length∧fld xs p 44=encH h∧h.ok∧h.con=true)∨(1≤e∧e≤6∧h=Hd0∧0≤a∧a≤xs.length∧0≤q∧q≤xs.length):=by
 unfold decH at hd
 split at hd
 ·simp only [Prod.mk.injEq] at hd;obtain ⟨rfl,rfl,rfl,rfl⟩:=hd;exact .inr (by refine ⟨by omega,by omega,rfl,by omega,by omega,by omega,by omega⟩)
 rename_i h4
 split at hd
 ·have:=diffAt_le (fld xs p 4) magicL
  have e4:magicL.length=4:=rfl
  simp only [Prod.mk.injEq] at hd;obtain ⟨rfl,rfl,rfl,rfl⟩:=hd;exact .inr (by refine ⟨by omega,by omega,rfl,by omega,by omega,by omega,by omega⟩)
 rename_i hm
 split at hd
 ·simp only [Prod.mk.injEq] at hd;obtain ⟨rfl,rfl,rfl,rfl⟩:=hd;exact .inr (by refine ⟨by omega,by omega,rfl,by omega,by omega,by omega,by omega⟩)
 rename_i h5
 split at hd
 ·simp only [Prod.mk.injEq] at hd;obtain ⟨rfl,rfl,rfl,rfl⟩:=hd;exact .inr (by refine ⟨by omega,by omega,rfl,by omega,by omega,by omega,by omega⟩)
 rename_i hv
 split at hd
 ·simp only [Prod.mk.injEq] at hd;obtain ⟨rfl,rfl,rfl,rfl⟩:=hd;exact .inr (by refine ⟨by omega,by omega,rfl,by omega,by omega,by omega,by omega⟩)
 rename_i h20
 split at hd
 ·have:=diffAt_le (fld xs (p+5) 15) zeroL
  have e4:zeroL.length=15:=rfl
  simp only [Prod.mk.injEq] at hd;obtain ⟨rfl,rfl,rfl,rfl⟩:=hd;exact .inr (by refine ⟨by omega,by omega,rfl,by omega,by omega,by omega,by omega⟩)
 rename_i hz
 split at hd
 ·simp only [Prod.mk.injEq] at hd;obtain ⟨rfl,rfl,rfl,rfl⟩:=hd;exact .inr (by refine ⟨by omega,by omega,rfl,by omega,by omega,by omega,by omega⟩)
 rename_i h44
 split at hd
 ·rename_i hc
  simp only [Prod.mk.injEq] at hd
  obtain ⟨rfl,rfl,rfl,rfl⟩:=hd
  refine .inl ⟨rfl,rfl,rfl,by omega,?_,?_,hc⟩
  ·have hm:=Decidable.not_not.1 hm
   have hz:=Decidable.not_not.1 hz
   have hx:xs[p+4]?=some xs[p+4]:=List.getElem?_eq_getElem (by omega)
   have hone:fld xs (p+4) 1=[xs[p+4]]:=by
    unfold fld
    rw [List.drop_eq_getElem_cons (by omega)]
    rfl
   have f4:∀ o,o+4≤xs.length→be 4 (uval (fld xs o 4))=fld xs o 4:=fun o ho=>be_uval4 (fld_bytes hB o 4) (fld_len xs o 4 ho)
   rw [show (44:Nat)=4+(1+(15+(4+(4+(4+(4+(4+4))))))) from rfl]
   rw [fld_split,fld_split,fld_split,fld_split,fld_split,fld_split,fld_split,fld_split,hm,hone,hz]
   unfold encH decHd
   rw [hx] at hv
   simp only [hx,Option.getD_some] at hv ⊢
   rw [(verB_Of hv).1,f4 _ (by omega),f4 _ (by omega),f4 _ (by omega),f4 _ (by omega),f4 _ (by omega),f4 _ (by omega)]
   rfl
  ·have f4:∀ o,o+4≤xs.length→U32 (uval (fld xs o 4)):=fun o ho=>uval4_bd (fld_bytes hB o 4) (fld_len xs o 4 ho)
   obtain ⟨_,v0,v1⟩:=verB_Of hv
   exact ⟨v0,v1,f4 _ (by omega),f4 _ (by omega),f4 _ (by omega),f4 _ (by omega),f4 _ (by omega),f4 _ (by omega)⟩
 ·simp only [Prod.mk.injEq] at hd;obtain ⟨rfl,rfl,rfl,rfl⟩:=hd;exact .inr (by refine ⟨by omega,by omega,rfl,by omega,by omega,by omega,by omega⟩)
theorem encH_bytes {h:Hd} (hok:h.ok):Bytes (encH h):=by
 refine bytes_of_mem fun x hx=>?_
 have hb:∀ v,x ∈ be 4 v→0≤x∧x<256:=fun v=>(be_bytes 4 v).mem x
 unfold encH at hx
 simp only [List.mem_append,List.mem_cons] at hx
 have v0:=hok.v0
 have v1:=hok.v1
 rcases hx with hx | rfl | hx | hx | hx | hx | hx | hx | hx
 ·simp [magicL] at hx;omega
 ·unfold verB;split <;> omega
 ·simp [zeroL] at hx;omega
 all_goals exact hb _ hx
def nn (l:List UInt8):Prop:=∀ c ∈ l,c.toNat≠10
theorem nn_nil:nn []:=fun c h=>by simp at h
theorem nn_app {a b:List UInt8} (ha:nn a) (hb:nn b):nn (a++b):=fun c h=>by
 rcases List.mem_append.1 h with h | h
 ·exact ha c h
 ·exact hb c h
theorem nn_one {c:UInt8} (h:c.toNat≠10):nn [c]:=fun d hd=>by
 rcases List.mem_singleton.1 hd with rfl
 exact h
theorem nn_add {l:List UInt8} {i j:Nat} (h1:nn (l.take i)) (h2:nn ((l.drop i).take j)):nn (l.take (i+j)):=by
 rw [List.take_add]
 exact nn_app h1 h2
theorem dig_nn {c:UInt8} (h:dig c=true):c.toNat≠10:=by
 unfold dig at h
 simp only [Bool.and_eq_true,decide_eq_true_eq] at h
 omega
theorem tw_take {p:UInt8→Bool} (l:List UInt8):l.take (l.takeWhile p).length=l.takeWhile p:=by
 induction l with
 | nil=>rfl
 | cons a t ih =>
   rw [List.takeWhile_cons]
   split
   ·rw [List.length_cons,List.take_succ_cons,ih]
   ·rfl
theorem tw_dig (l:List UInt8):nn (l.takeWhile dig):=fun c h=>dig_nn (List.all_eq_true.1 (List.all_takeWhile (p:=dig) (l:=l)) c h)
theorem nn_name {l:List UInt8} (h:nameOk l=true):nn l:=fun c hc=>by
 unfold nameOk at h
 simp only [Bool.and_eq_true,List.all_eq_true] at h
 have:=h.2 c hc
 unfold nameB nameI alphaI at this
 simp only [Bool.or_eq_true,Bool.and_eq_true,decide_eq_true_eq] at this
 omega
theorem nn_tn {l a:List UInt8} {n:Nat} (h:tnParse l=some (a,n)):nn (l.take n):=by
 obtain ⟨h1,_,_,h4⟩:=tnParse_some h
 rcases h4 with h4 | h4
 ·rw [h4];exact nn_name h1
 ·rw [h4]
  exact nn_app (a:=[60]) (nn_one (by decide)) (nn_app (nn_name h1) (nn_one (by decide)))
theorem nn_field {l:List UInt8} (h:0≤hmsField l):nn (l.take 3):=by
 unfold hmsField at h
 split at h
 ·split at h
  ·rename_i c a b t hc
   intro d hd
   simp at hd
   rcases hd with rfl | rfl | rfl
   ·omega
   ·exact dig_nn hc.2.1
   ·exact dig_nn hc.2.2.1
  ·omega
 ·omega
theorem nn_tail (l:List UInt8):nn (l.take (hmsTail l).2):=by
 unfold hmsTail
 split
 ·rename_i h1
  split
  ·rename_i h2
   exact nn_add (i:=3) (j:=3) (nn_field h1) (nn_field h2)
  ·exact nn_field h1
 ·exact nn_nil
theorem nn_body {l:List UInt8} {v:Int} {n:Nat} (h:hmsBody l=some (v,n)):nn (l.take n):=by
 unfold hmsBody at h
 dsimp only at h
 split at h
 ·simp only [Option.some.injEq,Prod.mk.injEq] at h
  rw [← h.2]
  exact nn_add (by rw [tw_take];exact tw_dig l) (nn_tail _)
 ·cases h
theorem nn_hms {l:List UInt8} {v:Int} {n:Nat} (h:hmsParse l=some (v,n)):nn (l.take n):=by
 unfold hmsParse at h
 split at h
 ·cases h
 ·rename_i c t
  split at h
  ·rename_i hc
   cases hb:hmsBody t with
   | none=>rw [hb] at h;cases h
   | some p =>
     rw [hb] at h
     simp only [Option.map_some,Option.some.injEq,Prod.mk.injEq] at h
     rw [← h.2,List.take_succ_cons]
     exact nn_app (a:=[c]) (nn_one (by omega)) (nn_body hb)
  ·split at h
   ·rename_i hc
    cases hb:hmsBody t with
    | none=>rw [hb] at h;cases h
    | some p =>
      rw [hb] at h
      simp only [Option.map_some,Option.some.injEq,Prod.mk.injEq] at h
      rw [← h.2,List.take_succ_cons]
      exact nn_app (a:=[c]) (nn_one (by omega)) (nn_body hb)
   ·exact nn_body h
theorem nn_num {l:List UInt8} {v:Int} {n:Nat} (h:ptNum l=some (v,n)):nn (l.take n):=by
 unfold ptNum at h
 split at h
 ·simp only [Option.some.injEq,Prod.mk.injEq] at h
  rw [← h.2,tw_take]
  exact tw_dig l
 ·cases h
theorem nn_numP {l:List UInt8} {v:Int} {n:Nat} (h:ptNumP l=some (v,n)):nn (l.take n):=by
 unfold ptNumP at h
 split at h
 ·cases h
 ·rename_i v' n' hn
  split at h
  ·cases h
  ·rename_i c t hd
   split at h
   ·rename_i hc
    simp only [Option.some.injEq,Prod.mk.injEq] at h
    rw [← h.2]
    refine nn_add (nn_num hn) ?_
    rw [hd]
    exact nn_one (by omega)
   ·cases h
theorem nn_head {l:List UInt8} {h:Int × Int × Int × Int × Int} {n:Nat} (e:ptHead l=some (h,n)):nn (l.take n):=by
 unfold ptHead at e
 split at e
 ·cases e
 ·rename_i c t
  split at e
  ·rename_i hc
   split at e
   ·cases e
   ·rename_i v m hn
    simp only [Option.some.injEq,Prod.mk.injEq] at e
    rw [← e.2,Nat.add_comm,List.take_succ_cons]
    exact nn_app (a:=[c]) (nn_one (by omega)) (nn_num hn)
  ·split at e
   ·rename_i hc
    split at e
    ·cases e
    ·rename_i m i h1
     split at e
     ·cases e
     ·rename_i w j h2
      split at e
      ·cases e
      ·rename_i x k h3
       simp only [Option.some.injEq,Prod.mk.injEq] at e
       rw [← e.2,show 1+(i+j)+k=(i+j+k)+1 by omega,List.take_succ_cons]
       exact nn_app (a:=[c]) (nn_one (by omega)) (nn_add (nn_add (nn_numP h1) (nn_numP h2)) (nn_num h3))
   ·split at e
    ·cases e
    ·rename_i v m hn
     simp only [Option.some.injEq,Prod.mk.injEq] at e
     rw [← e.2]
     exact nn_num hn
theorem nn_day {l:List UInt8} {d:RD} {n:Nat} (e:ptDay l=some (d,n)):nn (l.take n):=by
 unfold ptDay at e
 split at e
 ·cases e
 ·rename_i h m hh
  split at e
  ·split at e
   ·simp only [Option.some.injEq,Prod.mk.injEq] at e;rw [← e.2];exact nn_head hh
   ·cases e
  ·rename_i c t hd
   split at e
   ·rename_i hc
    split at e
    ·cases e
    ·rename_i v k hk
     split at e
     ·simp only [Option.some.injEq,Prod.mk.injEq] at e
      rw [← e.2,Nat.add_assoc]
      refine nn_add (nn_head hh) ?_
      rw [hd,Nat.add_comm,List.take_succ_cons]
      exact nn_app (a:=[c]) (nn_one (by omega)) (nn_hms hk)
     ·cases e
   ·split at e
    ·simp only [Option.some.injEq,Prod.mk.injEq] at e;rw [← e.2];exact nn_head hh
    ·cases e
theorem nn_comma {l:List UInt8} {a b:Nat} {d:RD} (h:nn (l.take a)) (e:ptComma l a=.ok (d,b)):nn (l.take b):=by
 unfold ptComma at e
 split at e
 ·cases e
 ·rename_i c t hd
  split at e
  ·rename_i hc
   split at e
   ·cases e
   ·rename_i d' n hn
    simp only [Except.ok.injEq,Prod.mk.injEq] at e
    rw [← e.2,Nat.add_assoc]
    refine nn_add h ?_
    rw [hd,Nat.add_comm,List.take_succ_cons]
    exact nn_app (a:=[c]) (nn_one (by omega)) (nn_day hn)
  ·cases e
theorem nn_days {l:List UInt8} {a:Nat} {std dst:List UInt8} {so dof:Int} {r:PR} (h:nn (l.take a)) (e:ptDays l a std so dst dof=.ok r):nn l:=by
 unfold ptDays at e
 split at e
 ·cases e
 ·rename_i st b hb
  split at e
  ·cases e
  ·rename_i en c hc
   split at e
   ·rename_i hl
    have:=nn_comma (nn_comma h hb) hc
    rw [hl.1,List.take_length] at this
    exact this
   ·cases e
theorem nn_rule {l:List UInt8} {r:PR} (e:ptParse l=.ok r):nn l:=by
 unfold ptParse at e
 split at e
 ·cases e
 ·rename_i std n h1
  split at e
  ·cases e
  ·rename_i v m h2
   have t1:=nn_add (nn_tn h1) (nn_hms h2)
   split at e
   ·split at e
    ·rename_i hl
     rw [hl,List.take_length] at t1
     exact t1
    ·split at e
     ·cases e
     ·rename_i dst n2 h3
      have t2:=nn_add t1 (nn_tn h3)
      split at e
      ·exact nn_days t2 e
      ·rename_i v2 m2 h4
       split at e
       ·exact nn_days (nn_add t2 (nn_hms h4)) e
       ·cases e
   ·cases e
def hdOf (v:Int) (b:Bk):Hd:=⟨v,b.ut.length,b.sd.length,b.lp.length,b.ti.length,b.ty.length,b.ch.length⟩
def Bk.few32 (b:Bk):Prop:=b.ti.length<4294967296∧b.ty.length<4294967296∧b.ch.length<4294967296∧b.lp.length<4294967296∧b.sd.length<4294967296∧b.ut.length<4294967296
theorem hdOf_ok {v:Int} {b:Bk} (h0:1≤v) (h1:v≤4) (h:b.few32):(hdOf v b).ok:=by
 obtain ⟨a1,a2,a3,a4,a5,a6⟩:=h
 exact ⟨h0,h1,⟨by unfold hdOf;dsimp only;omega,by unfold hdOf;dsimp only;omega⟩,⟨by unfold hdOf;dsimp only;omega,by unfold hdOf;dsimp only;omega⟩,⟨by unfold hdOf;dsimp only;omega,by unfold hdOf;dsimp only;omega⟩,⟨by unfold hdOf;dsimp only;omega,by unfold hdOf;dsimp only;omega⟩,⟨by unfold hdOf;dsimp only;omega,by unfold hdOf;dsimp only;omega⟩,⟨by unfold hdOf;dsimp only;omega,by unfold hdOf;dsimp only;omega⟩⟩
theorem BOk.fit {b:Bk} {four:Bool} {k:Nat} (h:BOk b four k):b.fit k:=by
 have hc:=h.cnt
 unfold cntOk at hc
 simp only [Bool.and_eq_true,decide_eq_true_eq] at hc
 exact ⟨hc.1.1.1.1.symm,h.ti,h.lf⟩
theorem BOk.con {b:Bk} {four:Bool} {k:Nat} (h:BOk b four k) (v:Int):(hdOf v b).con=true:=by
 have hc:=h.cnt
 unfold cntOk at hc
 simp only [Bool.and_eq_true,Bool.or_eq_true,Bool.not_eq_true',decide_eq_true_eq,decide_eq_false_iff_not] at hc
 obtain ⟨⟨⟨⟨_,h2⟩,h3⟩,h4⟩,h5⟩:=hc
 unfold Hd.con hdOf
 rw [decide_eq_true_iff]
 dsimp only
 refine ⟨by omega,by omega,?_,?_⟩
 ·rcases h5 with h | h
  ·exact .inl (by omega)
  ·exact .inr (by omega)
 ·rcases h4 with h | h
  ·exact .inl (by omega)
  ·exact .inr (by omega)
def partE (k:Nat) (v:Int) (b:Bk):List Int:=encH (hdOf v b)++encB k b
theorem partE_len {k:Nat} {v:Int} {b:Bk} (h:b.ti.length=b.ix.length):(partE k v b).length=44+totB k b:=by
 unfold partE
 rw [List.length_append,encH_len,encB_len k b h]
def partF (l:List Int) (p:Nat) (ver:Int) (k:Nat):Int × Bk × Int × Int × Int :=
 match decH l p with
 | (h,q,e,a) =>
   if e≠0 then (0,Bk.zero,q,e,a)
   else if ver≠0∧h.ver≠ver then (0,Bk.zero,q,4,(p:Int)+4)
   else match decB k h.ut.toNat h.sd.toNat h.lp.toNat h.tm.toNat h.ty.toNat h.ch.toNat l q.toNat p with
    | (Q,P,E,T)=>if E≠0 then (0,Bk.zero,P,E,T) else if vB Q (decide (h.ver=4)) k≠0 then (0,Bk.zero,P,vB Q (decide (h.ver=4)) k,(p:Int)) else (h.ver,Q,P,0,0)
theorem part_enc {k:Nat} (hk:k=4∨k=8) {v:Int} {b:Bk} (h0:1≤v) (h1:v≤4) (hb:b.ok) (h3:b.few32) (hB:BOk b (decide (v=4)) k) (ver:Int) (hv:ver=0∨ver=v) (u r:List Int) :
 partF (u++(partE k v b++r)) u.length ver k=(v,b,((u.length+(44+totB k b):Nat):Int),0,0):=by
 have e1:u++(partE k v b++r)=u++(encH (hdOf v b)++(encB k b++r)):=by unfold partE;rw [List.append_assoc]
 have e2:u++(partE k v b++r)=(u++encH (hdOf v b))++(encB k b++r):=by rw [e1,List.append_assoc]
 have d1:=dec_enc u (encB k b++r) (hdOf v b) (hdOf_ok h0 h1 h3)
 rw [if_pos (hB.con v),← e1] at d1
 have d2:=decB_enc hk hb hB.fit (u++encH (hdOf v b)) r (u.length:Int)
 rw [← e2,List.length_append,encH_len] at d2
 unfold partF
 rw [d1]
 dsimp only
 rw [if_neg (fun h=>h rfl),if_neg (fun h=>by rcases hv with hv | hv;exact h.1 hv;exact h.2 hv.symm)]
 have e3:((u.length:Int)+44).toNat=u.length+44:=by omega
 rw [e3]
 unfold hdOf
 dsimp only
 simp only [Int.toNat_natCast]
 rw [d2]
 dsimp only
 rw [if_neg (fun h=>h rfl),if_neg (fun h=>h ((vB_iff _ _ _).2 hB)),Nat.add_assoc]
def u8s (l:List Int):List UInt8:=l.map (fun x=>UInt8.ofNat x.toNat)
def encF (v:Int) (A B:Bk) (ft:List Int):List Int:=partE 4 v A++(if v=1 then [] else partE 8 v B++(10 :: (ft++[10])))
structure VOk (v:Int) (A B:Bk) (ft:List Int):Prop where
 v0:1≤v
 v1:v≤4
 a:A.ok
 a32:A.few32
 aB:BOk A (decide (v=4)) 4
 one:v=1→B=Bk.zero∧ft=[]
 more:v≠1→B.ok∧B.few32∧BOk B (decide (v=4)) 8∧(vF (u8s ft) v B).1=0∧∀ x ∈ ft,x≠10
noncomputable def footF (l:List Int) (v:Int) (A B:Bk) (at_:Nat):Except (Int × Int) (Int × Bk × Bk × List Int) :=
 if l.length≤at_ then .error (1,(l.length:Int)) else if l[at_]?.getD 0≠10 then .error (14,(at_:Int))
 else if at_+1+((l.drop (at_+1)).takeWhile (fun x=>x != 10)).length=l.length then .error (1,(l.length:Int))
 else if (vF (u8s ((l.drop (at_+1)).takeWhile (fun x=>x != 10))) v B).1≠0 then .error ((vF (u8s ((l.drop (at_+1)).takeWhile (fun x=>x != 10))) v B).1,(at_:Int)+1+(vF (u8s ((l.drop (at_+1)).takeWhile (fun x=>x != 10))) v B).2)
 else if at_+1+((l.drop (at_+1)).takeWhile (fun x=>x != 10)).length+1<l.length then .error (2,((at_+1+((l.drop (at_+1)).takeWhile (fun x=>x != 10)).length+1:Nat):Int))
 else .ok (v,A,B,(l.drop (at_+1)).takeWhile (fun x=>x != 10))
noncomputable def parF (l:List Int):Except (Int × Int) (Int × Bk × Bk × List Int) :=
 match partF l 0 0 4 with
 | (v,A,q,e,a) =>
   if e≠0 then .error (e,a)
   else if v=1 then (if q<l.length then .error (2,q) else .ok (1,A,Bk.zero,[]))
   else match partF l q.toNat v 8 with
    | (_,B,p,e,a)=>if e≠0 then .error (e,a) else footF l v A B p.toNat
theorem takeW {ft:List Int} (h:∀ x ∈ ft,x≠10) (r:List Int):(ft++10 :: r).takeWhile (fun x=>x != 10)=ft:=by
 rw [List.takeWhile_append_of_pos (fun x hx=>by simpa using h x hx)]
 simp
theorem parse_enc {v:Int} {A B:Bk} {ft:List Int} (h:VOk v A B ft):parF (encF v A B ft)=.ok (v,A,B,ft):=by
 unfold parF
 have p1:=part_enc (k:=4) (.inl rfl) h.v0 h.v1 h.a h.a32 h.aB 0 (.inl rfl) [] (if v=1 then [] else partE 8 v B++(10 :: (ft++[10])))
 rw [List.nil_append,List.length_nil,Nat.zero_add] at p1
 have le:(encF v A B ft).length=44+totB 4 A+(if v=1 then ([]:List Int) else partE 8 v B++(10 :: (ft++[10]))).length:=by unfold encF;rw [List.length_append,partE_len h.aB.fit.len]
 have p1':partF (encF v A B ft) 0 0 4=(v,A,((44+totB 4 A:Nat):Int),0,0):=p1
 rw [p1']
 dsimp only
 rw [if_neg (fun h=>h rfl)]
 by_cases v1:v=1
 ·obtain ⟨rfl,rfl⟩:=h.one v1
  rw [if_pos v1,if_neg (by rw [le,if_pos v1];simp)]
  rw [v1]
 ·obtain ⟨b1,b2,b3,b4,b5⟩:=h.more v1
  rw [if_neg v1,Int.toNat_natCast]
  have p2:=part_enc (k:=8) (.inr rfl) h.v0 h.v1 b1 b2 b3 v (.inr rfl) (partE 4 v A) (10 :: (ft++[10]))
  rw [partE_len h.aB.fit.len] at p2
  have p2':partF (encF v A B ft) (44+totB 4 A) v 8=(v,B,((44+totB 4 A+(44+totB 8 B):Nat):Int),0,0):=by
   unfold encF
   rw [if_neg v1]
   exact p2
  rw [p2']
  dsimp only
  rw [if_neg (fun h=>h rfl),Int.toNat_natCast]
  have lp:(partE 4 v A++partE 8 v B).length=44+totB 4 A+(44+totB 8 B):=by rw [List.length_append,partE_len h.aB.fit.len,partE_len b3.fit.len]
  have e1:encF v A B ft=(partE 4 v A++partE 8 v B)++(10 :: (ft++[10])):=by unfold encF;rw [if_neg v1,List.append_assoc]
  generalize 44+totB 4 A+(44+totB 8 B)=n at *
  rw [e1]
  generalize partE 4 v A++partE 8 v B=u at *
  have ln:(u++(10 :: (ft++[10]))).length=n+(ft.length+2):=by rw [List.length_append,lp];simp
  have g1:(u++(10 :: (ft++[10])))[n]?.getD 0=10:=by rw [← lp,List.getElem?_append_right (Nat.le_refl _),Nat.sub_self];rfl
  have g2:(u++(10 :: (ft++[10]))).drop (n+1)=ft++[10]:=by
   rw [show u++(10 :: (ft++[10]))=(u++[10])++(ft++[10]) by simp]
   exact List.drop_left' (by simp [lp])
  unfold footF
  rw [ln,g1,g2,takeW b5 []]
  rw [if_neg (by omega),if_neg (fun h=>h rfl),if_neg (by omega),if_neg (fun h=>h b4),if_neg (by omega)]
theorem parse_ext {v:Int} {A B:Bk} {ft:List Int} (h:VOk v A B ft) (c:Int) (r:List Int):parF (encF v A B ft++c :: r)=.error (2,((encF v A B ft).length:Int)):=by
 unfold parF
 have p1:=part_enc (k:=4) (.inl rfl) h.v0 h.v1 h.a h.a32 h.aB 0 (.inl rfl) [] ((if v=1 then [] else partE 8 v B++(10 :: (ft++[10])))++c :: r)
 rw [List.nil_append,List.length_nil,Nat.zero_add,← List.append_assoc] at p1
 have p1':partF (encF v A B ft++c :: r) 0 0 4=(v,A,((44+totB 4 A:Nat):Int),0,0):=p1
 rw [p1']
 dsimp only
 rw [if_neg (fun h=>h rfl)]
 by_cases v1:v=1
 ·have le:(encF v A B ft).length=44+totB 4 A:=by unfold encF;rw [if_pos v1,List.append_nil,partE_len h.aB.fit.len]
  rw [if_pos v1,if_pos (by rw [List.length_append,le,List.length_cons];omega),le]
 ·obtain ⟨b1,b2,b3,b4,b5⟩:=h.more v1
  rw [if_neg v1,Int.toNat_natCast]
  have p2:=part_enc (k:=8) (.inr rfl) h.v0 h.v1 b1 b2 b3 v (.inr rfl) (partE 4 v A) ((10 :: (ft++[10]))++c :: r)
  rw [partE_len h.aB.fit.len] at p2
  have e0:encF v A B ft++c :: r=partE 4 v A++(partE 8 v B++((10 :: (ft++[10]))++c :: r)):=by unfold encF;rw [if_neg v1];simp
  have p2':partF (encF v A B ft++c :: r) (44+totB 4 A) v 8=(v,B,((44+totB 4 A+(44+totB 8 B):Nat):Int),0,0):=by rw [e0];exact p2
  rw [p2']
  dsimp only
  rw [if_neg (fun h=>h rfl),Int.toNat_natCast]
  have lp:(partE 4 v A++partE 8 v B).length=44+totB 4 A+(44+totB 8 B):=by rw [List.length_append,partE_len h.aB.fit.len,partE_len b3.fit.len]
  have e1:encF v A B ft++c :: r=(partE 4 v A++partE 8 v B)++(10 :: (ft++10 :: c :: r)):=by rw [e0];simp
  have e2:(encF v A B ft).length=44+totB 4 A+(44+totB 8 B)+1+ft.length+1:=by unfold encF;rw [if_neg v1,← List.append_assoc,List.length_append,lp];simp;omega
  rw [e2]
  generalize 44+totB 4 A+(44+totB 8 B)=n at *
  rw [e1]
  generalize partE 4 v A++partE 8 v B=u at *
  have ln:(u++(10 :: (ft++10 :: c :: r))).length=n+(ft.length+3+r.length):=by rw [List.length_append,lp];simp;omega
  have g1:(u++(10 :: (ft++10 :: c :: r)))[n]?.getD 0=10:=by rw [← lp,List.getElem?_append_right (Nat.le_refl _),Nat.sub_self];rfl
  have g2:(u++(10 :: (ft++10 :: c :: r))).drop (n+1)=ft++10 :: (c :: r):=by
   rw [show u++(10 :: (ft++10 :: c :: r))=(u++[10])++(ft++10 :: (c :: r)) by simp]
   exact List.drop_left' (by simp [lp])
  unfold footF
  rw [ln,g1,g2,takeW b5 (c :: r)]
  rw [if_neg (by omega),if_neg (fun h=>h rfl),if_neg (by omega),if_neg (fun h=>h b4),if_pos (by omega)]
def fB (s:List UInt8):List Int:=s.map (fun c=>(c.toNat:Int))
theorem u8s_fB (s:List UInt8):u8s (fB s)=s:=by
 unfold u8s fB
 rw [List.map_map]
 conv=>rhs;rw [← List.map_id s]
 refine List.map_congr_left fun c _=>?_
 simp
theorem fB_u8s {l:List Int} (h:Bytes l):fB (u8s l)=l:=by
 unfold u8s fB
 rw [List.map_map]
 conv=>rhs;rw [← List.map_id l]
 refine List.map_congr_left fun x hx=>?_
 have:=h.mem x hx
 simp
 omega
theorem fB_bytes (s:List UInt8):Bytes (fB s):=bytes_of_mem fun x hx=>by
 obtain ⟨c,_,rfl⟩:=List.mem_map.1 hx
 have:=c.toNat_lt
 omega
theorem vF_nn {s:List UInt8} {v:Int} {B:Bk} (h:(vF s v B).1=0):nn s:=by
 unfold vF at h
 split at h
 ·rename_i e;rw [e];exact nn_nil
 ·cases hp:ptParse s with
  | error x=>rw [hp] at h;dsimp only at h;omega
  | ok r=>exact nn_rule hp
theorem vFile_ok {v:Int} {A B:Bk} {s:List UInt8} (h:vFile v A B s=0) (ha:A.ok) (hb:B.ok) (a32:A.few32) (b32:B.few32):VOk v A B (fB s):=by
 unfold vFile at h
 by_cases v0:v<1∨4<v
 ·rw [if_pos v0] at h;cases h
 rw [if_neg v0] at h
 by_cases e1:vB A (decide (v=4)) 4=0
 rotate_left
 ·rw [if_pos e1] at h;exact absurd h e1
 rw [if_neg (fun z=>z e1)] at h
 by_cases v1:v=1
 ·rw [if_pos v1] at h
  split at h
  ·rename_i z
   obtain ⟨rfl,z2⟩:=z
   rw [zB_eq] at z2
   exact ⟨by omega,by omega,ha,a32,(vB_iff _ _ _).1 e1,fun _=>⟨(beqB_iff _ _).1 z2,rfl⟩,fun w=>absurd v1 w⟩
  ·cases h
 ·rw [if_neg v1] at h
  by_cases e2:vB B (decide (v=4)) 8=0
  rotate_left
  ·rw [if_pos e2] at h;exact absurd h e2
  rw [if_neg (fun z=>z e2)] at h
  refine ⟨by omega,by omega,ha,a32,(vB_iff _ _ _).1 e1,fun w=>absurd w v1,fun _=>⟨hb,b32,(vB_iff _ _ _).1 e2,by rw [u8s_fB];exact h,fun x hx=>?_⟩⟩
  obtain ⟨c,hc,rfl⟩:=List.mem_map.1 hx
  have:=vF_nn h c hc
  omega
section
variable {l:List Int} {p k:Nat} {ver q e a:Int} {h:Hd}
theorem pf_hd (hd:decH l p=(h,q,e,a)) (he:e≠0):partF l p ver k=(0,Bk.zero,q,e,a):=by
 unfold partF
 rw [hd]
 exact if_pos he
theorem pf_ver (hd:decH l p=(h,q,0,0)) (hv:ver≠0) (hn:h.ver≠ver):partF l p ver k=(0,Bk.zero,q,4,(p:Int)+4):=by
 unfold partF
 rw [hd]
 dsimp only
 rw [if_neg (fun z=>z rfl),if_pos ⟨hv,hn⟩]
theorem pf_blk {Q:Bk} {P E T:Int} (hd:decH l p=(h,q,0,0)) (hv:ver=0∨h.ver=ver) (hb:decB k h.ut.toNat h.sd.toNat h.lp.toNat h.tm.toNat h.ty.toNat h.ch.toNat l q.toNat p=(Q,P,E,T)) (hE:E≠0):partF l p ver k=(0,Bk.zero,P,E,T):=by
 unfold partF
 rw [hd]
 dsimp only
 rw [if_neg (fun z=>z rfl),if_neg (fun z=>by rcases hv with hv | hv;exact z.1 hv;exact z.2 hv),hb]
 dsimp only
 rw [if_pos hE]
theorem pf_bad {Q:Bk} {P T:Int} (hd:decH l p=(h,q,0,0)) (hv:ver=0∨h.ver=ver) (hb:decB k h.ut.toNat h.sd.toNat h.lp.toNat h.tm.toNat h.ty.toNat h.ch.toNat l q.toNat p=(Q,P,0,T)) (hB:vB Q (decide (h.ver=4)) k≠0):partF l p ver k=(0,Bk.zero,P,vB Q (decide (h.ver=4)) k,(p:Int)):=by
 unfold partF
 rw [hd]
 dsimp only
 rw [if_neg (fun z=>z rfl),if_neg (fun z=>by rcases hv with hv | hv;exact z.1 hv;exact z.2 hv),hb]
 dsimp only
 rw [if_neg (fun z=>z rfl),if_pos hB]
theorem pf_ok {Q:Bk} {P T:Int} (hd:decH l p=(h,q,0,0)) (hv:ver=0∨h.ver=ver) (hb:decB k h.ut.toNat h.sd.toNat h.lp.toNat h.tm.toNat h.ty.toNat h.ch.toNat l q.toNat p=(Q,P,0,T)) (hB:vB Q (decide (h.ver=4)) k=0):partF l p ver k=(h.ver,Q,P,0,0):=by
 unfold partF
 rw [hd]
 dsimp only
 rw [if_neg (fun z=>z rfl),if_neg (fun z=>by rcases hv with hv | hv;exact z.1 hv;exact z.2 hv),hb]
 dsimp only
 rw [if_neg (fun z=>z rfl),if_neg (fun z=>z hB)]
end
section
variable {l:List Int} {v v' q p e a:Int} {A B:Bk}
theorem pa_1 (h:partF l 0 0 4=(v,A,q,e,a)) (he:e≠0):parF l=.error (e,a):=by
 unfold parF
 rw [h]
 exact if_pos he
theorem pa_2 (h:partF l 0 0 4=(1,A,q,0,0)) (hq:q<l.length):parF l=.error (2,q):=by
 unfold parF
 rw [h]
 dsimp only
 rw [if_neg (fun z=>z rfl),if_pos rfl,if_pos hq]
theorem pa_3 (h:partF l 0 0 4=(1,A,q,0,0)) (hq:¬ q<l.length):parF l=.ok (1,A,Bk.zero,[]):=by
 unfold parF
 rw [h]
 dsimp only
 rw [if_neg (fun z=>z rfl),if_pos rfl,if_neg hq]
theorem pa_4 (h:partF l 0 0 4=(v,A,q,0,0)) (hv:v≠1) (h2:partF l q.toNat v 8=(v',B,p,e,a)) (he:e≠0):parF l=.error (e,a):=by
 unfold parF
 rw [h]
 dsimp only
 rw [if_neg (fun z=>z rfl),if_neg hv,h2]
 exact if_pos he
theorem pa_5 (h:partF l 0 0 4=(v,A,q,0,0)) (hv:v≠1) (h2:partF l q.toNat v 8=(v',B,p,0,0)):parF l=footF l v A B p.toNat:=by
 unfold parF
 rw [h]
 dsimp only
 rw [if_neg (fun z=>z rfl),if_neg hv,h2]
 dsimp only
 rw [if_neg (fun z=>z rfl)]
def ftL (l:List Int) (n:Nat):List Int:=(l.drop n).takeWhile (fun x=>x != 10)
theorem pt_1 {n:Nat} (h:l.length≤n):footF l v A B n=.error (1,(l.length:Int)):=by unfold footF;rw [if_pos h]
theorem pt_2 {n:Nat} (h:n<l.length) (h2:l[n]?.getD 0≠10):footF l v A B n=.error (14,(n:Int)):=by unfold footF;rw [if_neg (by omega),if_pos h2]
theorem pt_3 {n:Nat} (h:n<l.length) (h2:l[n]?.getD 0=10) (h3:n+1+(ftL l (n+1)).length=l.length):footF l v A B n=.error (1,(l.length:Int)):=by
 unfold ftL at h3
 unfold footF
 rw [if_neg (by omega),if_neg (fun z=>z h2),if_pos h3]
theorem pt_4 {n:Nat} (h:n<l.length) (h2:l[n]?.getD 0=10) (h3:n+1+(ftL l (n+1)).length≠l.length) (h4:(vF (u8s (ftL l (n+1))) v B).1≠0):footF l v A B n=.error ((vF (u8s (ftL l (n+1))) v B).1,(n:Int)+1+(vF (u8s (ftL l (n+1))) v B).2):=by
 unfold ftL at *
 unfold footF
 rw [if_neg (by omega),if_neg (fun z=>z h2),if_neg h3,if_pos h4]
theorem pt_5 {n:Nat} (h:n<l.length) (h2:l[n]?.getD 0=10) (h3:n+1+(ftL l (n+1)).length≠l.length) (h4:(vF (u8s (ftL l (n+1))) v B).1=0) (h5:n+1+(ftL l (n+1)).length+1<l.length):footF l v A B n=.error (2,((n+1+(ftL l (n+1)).length+1:Nat):Int)):=by
 unfold ftL at *
 unfold footF
 rw [if_neg (by omega),if_neg (fun z=>z h2),if_neg h3,if_neg (fun z=>z h4),if_pos h5]
theorem pt_6 {n:Nat} (h:n<l.length) (h2:l[n]?.getD 0=10) (h3:n+1+(ftL l (n+1)).length≠l.length) (h4:(vF (u8s (ftL l (n+1))) v B).1=0) (h5:¬ n+1+(ftL l (n+1)).length+1<l.length):footF l v A B n=.ok (v,A,B,ftL l (n+1)):=by
 unfold ftL at *
 unfold footF
 rw [if_neg (by omega),if_neg (fun z=>z h2),if_neg h3,if_neg (fun z=>z h4),if_neg h5]
theorem ftL_le (l:List Int) (n:Nat):(ftL l n).length≤l.length - n:=by
 have:=(List.takeWhile_sublist (l:=l.drop n) (fun x=>x != 10)).length_le
 rw [List.length_drop] at this
 exact this
theorem ftL_at {l:List Int} {n:Nat} (hn:n≤l.length) (h:n+(ftL l n).length≠l.length):n+(ftL l n).length<l.length∧l[n+(ftL l n).length]?=some 10:=by
 have hle:=ftL_le l n
 refine ⟨by omega,?_⟩
 have hsp:l.drop n=ftL l n++(l.drop n).dropWhile (fun x=>x != 10):=by unfold ftL;rw [List.takeWhile_append_dropWhile]
 have hlen:(l.drop n).length=l.length - n:=List.length_drop
 cases hw:(l.drop n).dropWhile (fun x=>x != 10) with
 | nil =>
   rw [hw,List.append_nil] at hsp
   rw [hsp] at hlen
   omega
 | cons y t =>
   have hy:y=10:=by
    have:=List.head_dropWhile_not (fun x:Int=>x != 10) (l:=l.drop n) (by rw [hw];simp)
    simp only [hw,List.head_cons] at this
    simpa using this
   have:(l.drop n)[(ftL l n).length]?=some 10:=by
    rw [hsp,List.getElem?_append_right (Nat.le_refl _),Nat.sub_self,hw,hy]
    rfl
   rwa [List.getElem?_drop] at this
theorem ftL_no {l:List Int} {n i:Nat} (hi:i<(ftL l n).length):∃ x,l[n+i]?=some x∧x≠10:=by
 have hm:∀ x ∈ ftL l n,x≠10:=fun x hx=>by
  have:=List.all_eq_true.1 (List.all_takeWhile (p:=fun x=>x != 10) (l:=l.drop n)) x hx
  simpa using this
 have h1:(l.drop n)[i]?=some (ftL l n)[i]:=by
  have hsp:l.drop n=ftL l n++(l.drop n).dropWhile (fun x=>x != 10):=by unfold ftL;rw [List.takeWhile_append_dropWhile]
  rw [hsp,List.getElem?_append_left hi,List.getElem?_eq_getElem hi]
 rw [List.getElem?_drop] at h1
 exact ⟨_,h1,hm _ (List.getElem_mem hi)⟩
theorem ftL_take (l:List Int) (n:Nat):fld l n (ftL l n).length=ftL l n:=by
 unfold fld ftL
 conv=>lhs;rw [← List.takeWhile_append_dropWhile (p:=fun x:Int=>x != 10) (l:=l.drop n)]
 rw [List.takeWhile_append_dropWhile]
 exact (List.prefix_iff_eq_take.1 (List.takeWhile_prefix _)).symm
end
theorem dec_small {l:List Int} {p k:Nat} {h:Hd} {q:Nat} {Q:Bk} {P T at_:Int} {n:Nat} (hk:k=4∨k=8) (hl:Bytes l) (hn:l.length≤n) (hb:decB k h.ut.toNat h.sd.toNat h.lp.toNat h.tm.toNat h.ty.toNat h.ch.toNat l q at_=(Q,P,0,T)) :
 (Q.ti.length≤n∧Q.ix.length≤n∧Q.ty.length≤n∧Q.ch.length≤n∧Q.lp.length≤n∧Q.sd.length≤n∧Q.ut.length≤n)∧Q.ok∧∃ m:Nat,P=(m:Int)∧m≤l.length∧m=q+tot k h.ut.toNat h.sd.toNat h.lp.toNat h.tm.toNat h.ty.toNat h.ch.toNat:=by
 unfold decB at hb
 split at hb
 ·simp only [Prod.mk.injEq] at hb
  exact absurd hb.2.2.1 (by decide)
 rename_i hlen
 split at hb
 rotate_left
 ·simp only [Prod.mk.injEq] at hb
  exact absurd hb.2.2.1 (by decide)
 simp only [Prod.mk.injEq] at hb
 obtain ⟨rfl,rfl,_,_⟩:=hb
 have hle:q+tot k h.ut.toNat h.sd.toNat h.lp.toNat h.tm.toNat h.ty.toNat h.ch.toNat≤l.length:=by omega
 obtain ⟨n0,n1,n2,n3,n4,n5,n6⟩:=decBk_len k h.ut.toNat h.sd.toNat h.lp.toNat h.tm.toNat h.ty.toNat h.ch.toNat l q hle
 obtain ⟨kb,kf⟩:=decBk_ok hk h.ut.toNat h.sd.toNat h.lp.toNat h.tm.toNat h.ty.toNat h.ch.toNat hl q hle
 refine ⟨?_,kb,_,rfl,hle,rfl⟩
 rw [n0,n1,n2,n3,n4,n5,n6]
 unfold tot at hle
 rcases hk with rfl | rfl <;> refine ⟨?_,?_,?_,?_,?_,?_,?_⟩ <;> omega
theorem fB_inj {a b:List UInt8} (h:fB a=fB b):a=b:=by
 have:=congrArg u8s h
 rwa [u8s_fB,u8s_fB] at this
theorem fB_len (s:List UInt8):(fB s).length=s.length:=List.length_map _
def Bk.le' (b:Bk) (n:Nat):Prop:=b.ti.length≤n∧b.ix.length≤n∧b.ty.length≤n∧b.ch.length≤n∧b.lp.length≤n∧b.sd.length≤n∧b.ut.length≤n
theorem encF_len {v:Int} {A B:Bk} {ft:List Int} (h:VOk v A B ft):(encF v A B ft).length=44+totB 4 A+(if v=1 then 0 else 44+totB 8 B+(ft.length+2)):=by
 unfold encF
 rw [List.length_append,partE_len h.aB.fit.len]
 by_cases v1:v=1
 ·rw [if_pos v1,if_pos v1];rfl
 ·obtain ⟨b1,b2,b3,b4,b5⟩:=h.more v1
  rw [if_neg v1,if_neg v1,List.length_append,partE_len b3.fit.len]
  simp
theorem set_ne {l:List Int} {i:Nat} {x y:Int} (h:l[i]?=some x) (hne:y≠x):l.set i y≠l:=by
 intro e
 have:=congrArg (fun z:List Int=>z[i]?) e
 have hi:i<l.length:=(List.getElem?_eq_some_iff.1 h).1
 rw [List.getElem?_set_self hi,h] at this
 injection this with this
 exact hne this
theorem encB_by (k:Nat) {b:Bk} (hb:b.ok):Bytes (encB k b) :=
 (eT_bytes k b.ti).app (hb.ix.app ((eTT_bytes hb.ty).app (hb.ch.app ((eLP_bytes k b.lp).app ((bytes_of_mem fun x hx=>by have:=eI_bd b.sd x hx;omega).app (bytes_of_mem fun x hx=>by have:=eI_bd b.ut x hx;omega))))))
theorem encF_bytes {v:Int} {A B:Bk} {ft:List Int} (h:VOk v A B ft) (hf:Bytes ft):Bytes (encF v A B ft):=by
 have part:∀ {k:Nat} {b:Bk},b.ok→b.few32→Bytes (partE k v b):=by
  intro k b hb h3
  unfold partE
  exact bytes_of_mem fun x hx=>by
   rcases List.mem_append.1 hx with hx | hx
   ·exact (encH_bytes (hdOf_ok h.v0 h.v1 h3)).mem x hx
   ·exact (encB_by k hb).mem x hx
 unfold encF
 refine bytes_of_mem fun x hx=>?_
 rcases List.mem_append.1 hx with hx | hx
 ·exact (part h.a h.a32).mem x hx
 ·by_cases v1:v=1
  ·rw [if_pos v1] at hx
   cases hx
  ·rw [if_neg v1] at hx
   obtain ⟨b1,b2,b3,b4,b5⟩:=h.more v1
   rcases List.mem_append.1 hx with hx | hx
   ·exact (part b1 b2).mem x hx
   ·rcases List.mem_cons.1 hx with rfl | hx
    ·decide
    ·rcases List.mem_append.1 hx with hx | hx
     ·exact hf.mem x hx
     ·simp at hx
      subst hx
      decide
theorem convR {W:World} {A:Option Addr} {n c:Nat} {xs:List Int} (hr:Rd W A n (bys xs)) (hb:IsB xs) (hn:0<n):(convert 22 9 (.slice A n c)).run Tryz.prog W=.ok (.string (bS xs)) W:=by
 have hl:xs.length=n:=by have:=hr.len;simpa using this
 obtain ⟨ad,x,rfl,_,_⟩:=rd_at hr hn
 have:=run_convert_bytes_back W 22 9 5 ad c (xs.map (fun x=>UInt8.ofNat x.toNat)) Tryz.underlying22 Tryz.underlying5 Tryz.underlying9 (fun j hj=>by
  rw [List.length_map] at hj
  obtain ⟨ad',x,e,hx,hc⟩:=rd_at hr (i:=j) (by omega)
  cases e
  rw [hc]
  have hm:=hb x (List.mem_of_getElem? hx)
  have hj2:xs[j]=x:=by rw [List.getElem?_eq_getElem hj] at hx;injection hx
  have:((UInt8.ofNat x.toNat).toNat:Int)=x:=by simp;omega
  simp only [List.getElem_map,hj2,this])
 rw [List.length_map,hl] at this
 exact this
theorem convS {W:World} {ad:Addr} {n c:Nat} {xs:List Int} (hr:Rd W (some ad) n (bys xs)) (hb:IsB xs):(convert 22 9 (.slice (some ad) n c)).run Tryz.prog W=.ok (.string (bS xs)) W:=by
 rcases Nat.eq_zero_or_pos n with rfl | hp
 ·obtain rfl:xs=[]:=List.eq_nil_of_length_eq_zero (by have:=hr.len;simpa using this)
  exact run_convert_bytes_back W 22 9 5 ad c [] Tryz.underlying22 Tryz.underlying5 Tryz.underlying9 (fun j hj=>by simp at hj)
 ·exact convR hr hb hp
theorem ixB_at:∀ {xs:List Int} {q:Nat},IsB xs→(∀ k x,k<q→xs[k]?=some x→¬ x=0)→xs[q]?=some 0→Lib.indexByte (Lib.bytesOf xs) 0=(q:Int)
 | [],q,_,_,h=>by simp at h
 | a :: l,0,hb,_,h=>by
   simp at h
   subst h
   rfl
 | a :: l,q+1,hb,hk,h=>by
   have ih:=ixB_at (xs:=l) (q:=q) (fun x hx=>hb x (by simp [hx])) (fun k x hlt hx=>hk (k+1) x (by omega) (by simpa using hx)) (by simpa using h)
   have ha:=hk 0 a (by omega) rfl
   have hr:=hb a (by simp)
   have hne:(UInt8.ofNat a.toNat == 0)=false:=by
    rw [beq_eq_false_iff_ne]
    intro e
    have:=congrArg UInt8.toNat e
    simp at this
    omega
   unfold Lib.bytesOf at ih ⊢
   rw [List.map_cons,Lib.indexByte,hne,ih]
   simp
theorem run_ixSlice {P:Program} (w:World) (ad:Addr) (n c:Nat) (xs:List Int) (hx:xs.length=n) (hc:∀ i v,xs[i]?=some v→w.cell? (ad.add i)=some (.int .u8 v)) (cv:Int) :
 (Extern.BytealgIndexByte.indexByte #[.slice (some ad) n c,.int .u8 cv]).run P w=.ok (.int .i64 (Lib.indexByte (Lib.bytesOf xs) cv.toNat.toUInt8)) w:=by
 have hl:=Lib.run_loadBytesX (P:=P) w xs ad .empty (fun j x hj=>hc j x hj)
 rw [hx] at hl
 have hs:=Lib.run_indexByteString (P:=P) ⟨(Lib.bytesOf xs).toArray⟩ cv w
 have he:(⟨ByteArray.empty.data++(Lib.bytesOf xs).toArray⟩:ByteArray)=⟨(Lib.bytesOf xs).toArray⟩:=by
  apply ByteArray.ext
  show (#[]:Array UInt8)++(Lib.bytesOf xs).toArray=(Lib.bytesOf xs).toArray
  simp
 rw [he] at hl
 delta Extern.BytealgIndexByte.indexByte Extern.BytealgIndexByte.indexByte.match_2 at hs ⊢
 dsimp [Array.getLit] at hs ⊢
 simp only [Extern.Bytes.bytesOf,Sem.run_bind,Sem.run_pure,hl,Result.andThen] at hs ⊢
 exact hs
namespace by_
theorem Equal1 (A B:Option Addr) (c d:Nat) (x:Int) (w:World) (h0:0≤x) (h1:x<256) (hx:Rd w A 1 (bys [x])) (hy:Rd w B 1 (bys [0])) :
 Calls Tryz.prog 129 #[.slice A 1 c,.slice B 1 d] w fun e w'=>e=.returned (.bool (decide (x=0)))∧w=w':=by
 have c1:=convR (c:=c) hx (by intro y hy;simp at hy;subst hy;exact ⟨h0,h1⟩) (by omega)
 have c2:=convR (c:=d) hy (by intro y hy;simp at hy;subst hy;omega) (by omega)
 have q:((bS [x]).toList == (bS [0]).toList)=decide (x=0):=by
  by_cases e:x=0
  ·subst e;rw [seq_eq rfl];rfl
  ·rw [decide_eq_false e]
   apply seq_ne
   intro h
   have:=congrArg byt h
   simp [bS,byt_mk] at this
   have:=congrArg UInt8.toNat this
   simp at this
   omega
 replace q:=hide q
 generalize decide (x=0)=z at *
 generalize bS [x]=s at *
 generalize bS [0]=t at *
 clear hx hy
 go_enter Tryz.func129,Tryz.ntmps129
 go_wp2_with fail
 go_ret
 exact ⟨retb q.out,rfl⟩
theorem HasSuffix0 (A B:Option Addr) (n c d:Nat) (xs:List Int) (w:World) (hr:Rd w A n (bys xs)) (hb:IsB xs) (hn:n≤1000000) (hnc:n≤c) (hc:c≤9223372036854775807) (hy:Rd w B 1 (bys [0])) :
 Calls Tryz.prog 236 #[.slice A n c,.slice B 1 d] w fun e w'=>e=.returned (.bool (decide (xs.getLast?=some 0)))∧w=w':=by
 have hlen:xs.length=n:=by have:=hr.len;simpa using this
 by_cases hp:0<n
 ·obtain ⟨ad,x,rfl,hx,_⟩:=rd_at hr (show n - 1<n by omega)
  have hla:xs.getLast?=some x:=by rw [List.getLast?_eq_getElem?,hlen,hx]
  have hm:=hb x (List.mem_of_getElem? hx)
  have hcut:=hr.cut (k:=n - 1) (cap:=c) (by omega) hnc
  rw [show n - (n - 1)=1 by omega,show (bys xs).drop (n - 1)=bys [x] by
   rw [← List.map_drop]
   congr 1
   rw [List.drop_eq_getElem_cons (by omega)]
   rw [List.getElem?_eq_getElem (by omega)] at hx
   injection hx with hx
   rw [hx,List.drop_of_length_le (by omega)]] at hcut
  have E:=hide (fun A' c' (h:Rd w A' 1 (bys [x]))=>Equal1 A' B c' d x w hm.1 hm.2 h hy)
  have he:decide (xs.getLast?=some 0)=decide (x=0):=by rw [hla];simp
  rw [he]
  generalize decide (x=0)=z at *
  have g1:decide ((1:Int)≤(n:Int))=true:=by simp;omega
  have g2:(1:Int)≤(n:Int):=by omega
  have g3:IntKind.i64.wrap ((n:Int) - 1)=((n - 1:Nat):Int):=by rw [IntKind.wrap_i64];omega
  have g4:n - (n - 1)=1:=by omega
  replace hcut:=hide hcut
  clear hr hy hx hla he hlen
  go_enter Tryz.func236,Tryz.ntmps236
  go_wp2_with fail
  refine (E.out _ _ ?_).mono ?_
  rotate_left
  ·rintro e w' ⟨rfl,rfl⟩
   go_wp2_with fail
   go_ret
   exact ⟨rfl,rfl⟩
  ·have:=hcut.out
   rw [if_neg (by omega)] at this
   exact this
 ·obtain rfl:n=0:=by omega
  obtain rfl:xs=[]:=List.eq_nil_of_length_eq_zero hlen
  go_enter Tryz.func236,Tryz.ntmps236
  go_wp2_with fail
  go_ret
  exact ⟨rfl,rfl⟩
theorem IndexByte0 (ad:Addr) (n c q:Nat) (xs:List Int) (w:World) (hr:Rd w (some ad) n (bys xs)) (hb:IsB xs) (hk:∀ k x,k<q→xs[k]?=some x→¬ x=0) (hq:xs[q]?=some 0) :
 Calls Tryz.prog 128 #[.slice (some ad) n c,.int .u8 0] w fun e w'=>e=.returned (.int .i64 q)∧w=w':=by
 have hx:=run_ixSlice (P:=Tryz.prog) w ad n c xs (by have:=hr.len;simpa using this) (fun i v hv=>by
  have hi:i<n:=by have:=(List.getElem?_eq_some_iff.1 hv).1;have:=hr.len;simp at this;omega
  obtain ⟨ad',x,e,h1,h2⟩:=rd_at hr hi
  cases e
  rw [h1] at hv
  cases hv
  exact h2) 0
 have hi:Lib.indexByte (Lib.bytesOf xs) (0:Int).toNat.toUInt8=(q:Int):=ixB_at hb hk hq
 rw [hi] at hx
 clear hr hb hk hq hi
 go_enter Tryz.func128,Tryz.ntmps128
 go_wp2_with fail
 rw [run_callFunc_extern Tryz.func182 (by kernel_rfl) (by kernel_rfl) (by kernel_rfl) (e:=Extern.BytealgIndexByte.indexByte) (by kernel_rfl),hx]
 simp only [Result.andThen]
 rw [Oper.upon_value]
 go_wp2
 go_ret
 exact ⟨rfl,rfl⟩
theorem Index0 (ad:Addr) (B:Option Addr) (n c d q:Nat) (xs:List Int) (w:World) (hr:Rd w (some ad) n (bys xs)) (hb:IsB xs) (hk:∀ k x,k<q→xs[k]?=some x→¬ x=0) (hq:xs[q]?=some 0) (hy:Rd w B 1 (bys [0])) :
 Calls Tryz.prog 79 #[.slice (some ad) n c,.slice B 1 d] w fun e w'=>e=.returned (.int .i64 q)∧w=w':=by
 have C:=hide (IndexByte0 ad n c q xs w hr hb hk hq)
 obtain ⟨bd,y,rfl,hy1,hy2⟩:=rd_at hy (i:=0) (by omega)
 simp at hy1
 subst hy1
 replace hy2:w.cell? bd=some (.int .u8 0):=by simpa [Addr.add] using hy2
 clear hr hb hk hq hy
 go_enter Tryz.func79,Tryz.ntmps79
 go_wp2_with fail
 refine C.out.mono ?_
 rintro e w' ⟨rfl,rfl⟩
 go_wp2_with fail
 go_ret
 exact ⟨rfl,rfl⟩
theorem Cut0 (ad:Addr) (B:Option Addr) (n c d q:Nat) (xs:List Int) (w:World) (hr:Rd w (some ad) n (bys xs)) (hb:IsB xs) (hn:n≤1000000) (hnc:n≤c) (hc:c≤9223372036854775807) (hk:∀ k x,k<q→xs[k]?=some x→¬ x=0) (hq:xs[q]?=some 0) (hy:Rd w B 1 (bys [0])) :
 Calls Tryz.prog 219 #[.slice (some ad) n c,.slice B 1 d] w fun e w'=>(∃ A2 n2 c2,e=.returned (.tuple #[.slice (some ad) q c,.slice A2 n2 c2,.bool true]))∧Below w.heap.size w w':=by
 have C:=hide (Index0 ad B n c d q xs w hr hb hk hq hy)
 have hqn:q<n:=by have:=(List.getElem?_eq_some_iff.1 hq).1;have:=hr.len;simp at this;omega
 have d1:decide (0≤(q:Int))=true:=by simp
 have d2:(q:Int)≤(c:Int):=by omega
 have d3:(q:Int)+1≤(n:Int):=by omega
 have d4:(0:Int)≤(q:Int)+1:=by omega
 have d5:IntKind.i64.wrap ((q:Int)+1)=((q+1:Nat):Int):=by rw [IntKind.wrap_i64];omega
 clear hr hb hk hq hy
 go_enter Tryz.func219,Tryz.ntmps219
 go_wp2_with fail
 refine C.out.mono ?_
 rintro e w' ⟨rfl,rfl⟩
 go_upto_region 3 with fail
 go_quiet (fail)
 go_wp2_with fail
 all_goals go_ret3
 all_goals exact ⟨⟨_,_,_,rfl⟩,bel_drewN (bl_refl _) _⟩
end by_
theorem ixN_at:∀ {xs:List Int} {q:Nat},IsB xs→(∀ k x,k<q→xs[k]?=some x→¬ x=10)→xs[q]?=some 10→Lib.indexByte (Lib.bytesOf xs) 10=(q:Int)
 | [],q,_,_,h=>by simp at h
 | a :: l,0,hb,_,h=>by
   simp at h
   subst h
   rfl
 | a :: l,q+1,hb,hk,h=>by
   have ih:=ixN_at (xs:=l) (q:=q) (fun x hx=>hb x (by simp [hx])) (fun k x hlt hx=>hk (k+1) x (by omega) (by simpa using hx)) (by simpa using h)
   have ha:=hk 0 a (by omega) rfl
   have hr:=hb a (by simp)
   have hne:(UInt8.ofNat a.toNat == 10)=false:=by
    rw [beq_eq_false_iff_ne]
    intro e
    have:=congrArg UInt8.toNat e
    simp at this
    omega
   unfold Lib.bytesOf at ih ⊢
   rw [List.map_cons,Lib.indexByte,hne,ih]
   simp
theorem ixN_no:∀ {xs:List Int},IsB xs→(∀ x ∈ xs,¬ x=10)→Lib.indexByte (Lib.bytesOf xs) 10=-1
 | [],_,_=>rfl
 | a :: l,hb,hk=>by
   have ih:=ixN_no (xs:=l) (fun x hx=>hb x (by simp [hx])) (fun x hx=>hk x (by simp [hx]))
   have ha:=hk a (by simp)
   have hr:=hb a (by simp)
   have hne:(UInt8.ofNat a.toNat == 10)=false:=by
    rw [beq_eq_false_iff_ne]
    intro e
    have:=congrArg UInt8.toNat e
    simp at this
    omega
   unfold Lib.bytesOf at ih ⊢
   rw [List.map_cons,Lib.indexByte,hne,ih]
   simp
def nlAt (l:List Int) (n:Nat):Int:=if n+(ftL l n).length=l.length then -1 else ((ftL l n).length:Int)
theorem nl_ix {l:List Int} (hB:Bytes l) {n:Nat} (hn:n≤l.length):Lib.indexByte (Lib.bytesOf (l.drop n)) 10=nlAt l n:=by
 have hI:IsB (l.drop n):=fun x hx=>hB.mem x (List.mem_of_mem_drop hx)
 unfold nlAt
 split
 ·rename_i h
  refine ixN_no hI fun x hx=>?_
  obtain ⟨i,hi,rfl⟩:=List.mem_iff_getElem.1 hx
  rw [List.length_drop] at hi
  obtain ⟨y,h1,h2⟩:=ftL_no (l:=l) (n:=n) (i:=i) (by omega)
  rw [List.getElem_drop]
  rw [List.getElem?_eq_getElem (by omega)] at h1
  injection h1 with h1
  rw [h1]
  exact h2
 ·rename_i h
  obtain ⟨h1,h2⟩:=ftL_at hn h
  refine ixN_at hI (fun k x hk hx=>?_) (by rw [List.getElem?_drop];exact h2)
  rw [List.getElem?_drop] at hx
  obtain ⟨y,h3,h4⟩:=ftL_no (l:=l) (n:=n) (i:=k) hk
  rw [h3] at hx
  injection hx with hx
  rw [← hx]
  exact h4
namespace by_
theorem IndexByteV (ad:Addr) (n c:Nat) (xs:List Int) (v:Int) (w:World) (hr:Rd w (some ad) n (bys xs)) (hv:Lib.indexByte (Lib.bytesOf xs) 10=v) :
 Calls Tryz.prog 128 #[.slice (some ad) n c,.int .u8 10] w fun e w'=>e=.returned (.int .i64 v)∧w=w':=by
 have hx:=run_ixSlice (P:=Tryz.prog) w ad n c xs (by have:=hr.len;simpa using this) (fun i v hv=>by
  have hi:i<n:=by have:=(List.getElem?_eq_some_iff.1 hv).1;have:=hr.len;simp at this;omega
  obtain ⟨ad',x,e,h1,h2⟩:=rd_at hr hi
  cases e
  rw [h1] at hv
  cases hv
  exact h2) 10
 have hi:Lib.indexByte (Lib.bytesOf xs) (10:Int).toNat.toUInt8=v:=hv
 rw [hi] at hx
 clear hr hv hi
 go_enter Tryz.func128,Tryz.ntmps128
 go_wp2_with fail
 rw [run_callFunc_extern Tryz.func182 (by kernel_rfl) (by kernel_rfl) (by kernel_rfl) (e:=Extern.BytealgIndexByte.indexByte) (by kernel_rfl),hx]
 simp only [Result.andThen]
 rw [Oper.upon_value]
 go_wp2
 go_ret
 exact ⟨rfl,rfl⟩
theorem IndexV (ad:Addr) (B:Option Addr) (n c d:Nat) (xs:List Int) (v:Int) (w:World) (hr:Rd w (some ad) n (bys xs)) (hv:Lib.indexByte (Lib.bytesOf xs) 10=v) (hy:Rd w B 1 (bys [10])) :
 Calls Tryz.prog 79 #[.slice (some ad) n c,.slice B 1 d] w fun e w'=>e=.returned (.int .i64 v)∧w=w':=by
 have C:=hide (IndexByteV ad n c xs v w hr hv)
 obtain ⟨bd,y,rfl,hy1,hy2⟩:=rd_at hy (i:=0) (by omega)
 simp at hy1
 subst hy1
 replace hy2:w.cell? bd=some (.int .u8 10):=by simpa [Addr.add] using hy2
 clear hr hv hy
 go_enter Tryz.func79,Tryz.ntmps79
 go_wp2_with fail
 refine C.out.mono ?_
 rintro e w' ⟨rfl,rfl⟩
 go_wp2_with fail
 go_ret
 exact ⟨rfl,rfl⟩
end by_
@[reducible] def cu (A:Option Addr) (n c:Nat) (p e a:Int):Value:=.agg #[.slice A n c,.int .i64 p,.int .i64 e,.int .i64 a]
namespace cu_
theorem New (A:Option Addr) (n c:Nat) (w:World):Calls Tryz.prog 18 #[.slice A n c] w fun e w'=>e=.returned (cu A n c 0 0 0)∧Below w.heap.size w w':=by
 go_enter Tryz.func18,Tryz.ntmps18
 go_wp2
 exact bodyPost_ret (v:=cu A n c 0 0 0) (by simp [results,Tryz.results18,go_sem]) rfl ⟨rfl,bl_new _ _⟩
end cu_
namespace cu_
theorem Rest_ok (A:Option Addr) (n c:Nat) (p a:Int) (w:World) (hn:n≤9223372036854775807) (h0:0≤p) (h1:p≤n) :
 Calls Tryz.prog 77 #[cu A n c p 0 a] w fun e w'=>e=.returned (.int .i64 (n - p))∧Below w.heap.size w w':=by
 go_enter Tryz.func77,Tryz.ntmps77
 go_wp2
 go_ret
 exact ⟨rfl,bl_new _ _⟩
theorem Rest_x (A:Option Addr) (n c:Nat) (p a:Int) (w:World) (hn:n≤9223372036854775807) (h0:0≤p) (h1:p≤n) :
 Calls Tryz.prog 77 #[cu A n c p 0 a] w fun e w'=>e=.returned (.int .i64 (n - p))∧w'=w.alloc (.cells #[.slice A n c,.int .i64 p,.int .i64 0,.int .i64 a] 51):=by
 go_enter Tryz.func77,Tryz.ntmps77
 go_wp2
 go_ret
 exact ⟨rfl,rfl⟩
theorem Fail_ok (A:Option Addr) (n c:Nat) (p a y at_:Int) (w:World) (hy:y≠0) :
 Calls Tryz.prog 121 #[cu A n c p 0 a,.int .i64 y,.int .i64 at_] w fun e w'=>e=.returned (cu A n c p y at_)∧Below w.heap.size w w':=by
 go_enter Tryz.func121,Tryz.ntmps121
 go_wp2
 exact bodyPost_ret (v:=cu A n c p y at_) (by simp [results,Tryz.results121,go_sem]) rfl ⟨rfl,bl_alloc (bl_new _ _) _⟩
theorem Fail_err (A:Option Addr) (n c:Nat) (p x a y at_:Int) (w:World) (hx:x≠0) :
 Calls Tryz.prog 121 #[cu A n c p x a,.int .i64 y,.int .i64 at_] w fun e w'=>e=.returned (cu A n c p x a)∧Below w.heap.size w w':=by
 go_enter Tryz.func121,Tryz.ntmps121
 go_wp2
 exact bodyPost_ret (v:=cu A n c p x a) (by simp [results,Tryz.results121,go_sem]) rfl ⟨rfl,bl_alloc (bl_new _ _) _⟩
theorem Fail_none (A:Option Addr) (n c:Nat) (p a at_:Int) (w:World) :
 Calls Tryz.prog 121 #[cu A n c p 0 a,.int .i64 0,.int .i64 at_] w fun e w'=>e=.returned (cu A n c p 0 a)∧Below w.heap.size w w':=by
 go_enter Tryz.func121,Tryz.ntmps121
 go_wp2
 exact bodyPost_ret (v:=cu A n c p 0 a) (by simp [results,Tryz.results121,go_sem]) rfl ⟨rfl,bl_alloc (bl_new _ _) _⟩
theorem truncated (A:Option Addr) (n c:Nat) (p a:Int) (w:World) :
 Calls Tryz.prog 181 #[cu A n c p 0 a] w fun e w'=>e=.returned (cu A n c p 1 n)∧Below w.heap.size w w':=by
 go_enter Tryz.func181,Tryz.ntmps181
 go_wp2_with fail
 refine (Fail_ok _ _ _ _ _ _ _ _ (by omega)).mono ?_
 rintro e w1 ⟨rfl,hb⟩
 obtain ⟨hc,hf⟩:=bcell hb
 have hz:w.heap.size+1<w1.heap.size:=by have:=hb.size;simp at this;omega
 have hb:=hide (bel_next (bl_alloc (bl_new _ _) _) hb)
 go_wp2
 refine bodyPost_ret (v:=cu A n c p 1 n) (by simp [results,Tryz.results181,go_sem,hc]) rfl ⟨rfl,?_⟩
 repeat (refine bl_set ?_ (by omega) _)
 exact hb.out
theorem next_err (A:Option Addr) (n c:Nat) (p x a k:Int) (w:World) (hx:x≠0) :
 Calls Tryz.prog 127 #[cu A n c p x a,.int .i64 k] w fun e w'=>e=.returned (.tuple #[.slice none 0 0,cu A n c p x a])∧Below w.heap.size w w':=by
 go_enter Tryz.func127,Tryz.ntmps127
 go_wp2
 go_region
 all_goals go_wp2
 all_goals exact bodyPost_ret (v:=.tuple #[.slice none 0 0,cu A n c p x a]) (by simp [results,Tryz.results127,go_sem]) rfl ⟨rfl,by first | exact bl_alloc (bl_new _ _) _ | exact bl_drew (bl_alloc (bl_new _ _) _)⟩
theorem next_no (A:Option Addr) (n c:Nat) (p a k:Int) (w:World) (hn:n≤9223372036854775807) (h0:0≤p) (h1:p≤n) (hk:k<0∨n - p<k) :
 Calls Tryz.prog 127 #[cu A n c p 0 a,.int .i64 k] w fun e w'=>e=.returned (.tuple #[.slice none 0 0,cu A n c p 1 n])∧Below w.heap.size w w':=by
 by_cases hk0:k<0
 ·clear hk
  go_enter Tryz.func127,Tryz.ntmps127
  go_wp2_with fail
  refine (truncated _ _ _ _ _ _).mono ?_
  rintro e w1 ⟨rfl,hb⟩
  obtain ⟨hc,hf⟩:=bcell hb
  have hz:w.heap.size+1<w1.heap.size:=by have:=hb.size;simp at this;omega
  have hb:=hide (bel_next (bl_alloc (bl_new _ _) _) hb)
  go_wp2
  refine bodyPost_ret (v:=.tuple #[.slice none 0 0,cu A n c p 1 n]) (by simp [results,Tryz.results127,go_sem,hc]) rfl ⟨rfl,?_⟩
  repeat (refine bl_set ?_ (by omega) _)
  exact hb.out
 ·have hk1:(n:Int) - p<k:=by omega
  clear hk
  go_enter Tryz.func127,Tryz.ntmps127
  go_wp2_with fail
  refine (Rest_ok _ _ _ _ _ _ hn h0 h1).mono ?_
  rintro e w1 ⟨rfl,hb⟩
  obtain ⟨hc,hf⟩:=bcell hb
  have hz:w.heap.size+1<w1.heap.size:=by have:=hb.size;simp at this;omega
  have hb:=hide (bel_next (bl_alloc (bl_new _ _) _) hb)
  go_wp2_with fail
  refine (truncated _ _ _ _ _ _).mono ?_
  rintro e w2 ⟨rfl,hb2⟩
  obtain ⟨hc2,hf2⟩:=bcell hb2
  have hz2:w.heap.size+1<w2.heap.size:=by have:=hb2.size;omega
  have hb2:=hide (bel_next hb.out hb2)
  go_wp2
  refine bodyPost_ret (v:=.tuple #[.slice none 0 0,cu A n c p 1 n]) (by simp [results,Tryz.results127,go_sem,hc,hc2,hz]) rfl ⟨rfl,?_⟩
  repeat (refine bl_set ?_ (by omega) _)
  exact hb2.out
theorem next_yes (A:Option Addr) (n c:Nat) (p k:Nat) (w:World) (hn:n≤c) (hc:c≤9223372036854775807) (h1:p+k≤n) :
 Calls Tryz.prog 127 #[cu A n c p 0 0,.int .i64 k] w fun e w'=>e=.returned (.tuple #[.slice (if c=p then A else A.map (·.add p)) k (c - p),cu A n c ((p+k:Nat):Int) 0 0])∧Below w.heap.size w w':=by
 generalize hA':(if c=p then A else A.map (·.add p))=A'
 go_enter Tryz.func127,Tryz.ntmps127
 go_wp2_with fail
 refine (Rest_x _ _ _ _ _ _ (by omega) (by omega) (by omega)).mono ?_
 rintro e w1 ⟨rfl,rfl⟩
 go_wp2
 go_region
 all_goals go_wp2
 all_goals
  refine bodyPost_ret (v:=.tuple #[.slice A' k (c - p),cu A n c ((p+k:Nat):Int) 0 0]) (by simp [results,Tryz.results127,go_sem,Nat.add_sub_cancel_left]) rfl ⟨rfl,?_⟩
  repeat (first | exact bl_refl _ | refine bl_set ?_ (by omega) _ | refine bl_drew ?_ | refine bl_alloc ?_ _)
theorem Clone (A:Option Addr) (n c:Nat) (xs:List Int) (w:World) (hA:A=none→n=0∧c=0) (hn:n≤1000000) (hr:Rd w A n (xs.map (Value.int .u8))) :
 Calls Tryz.prog 133 #[.slice A n c] w fun e w'=>∃ A' c',e=.returned (.slice A' n c')∧Ow w' w.heap.size 5 A' n c' (xs.map (Value.int .u8))∧Below w.heap.size w w':=by
 have Hone:=hide (oneCells .u8 xs)
 have HA:=hide hA
 rcases A with _ | ad
 ·obtain ⟨rfl,rfl⟩:=hA rfl
  have hx:xs=[]:=List.eq_nil_of_length_eq_zero (by simpa using hr.len)
  subst hx
  clear hA HA Hone
  have he:∀ w:World,(binOp .eql 22 (.slice none 0 0) (.slice none 0 0)).run Tryz.prog w=.ok (.bool true) w:=fun _=>rfl
  go_enter Tryz.func133,Tryz.ntmps133
  go_wp2
  go_ret
  exact ⟨none,0,rfl,Ow.nil (Nat.le_refl _) _,bl_refl _⟩
 ·clear hA
  have he:∀ w:World,(binOp .eql 22 (.slice (some ad) n c) (.slice none 0 0)).run Tryz.prog w=.ok (.bool false) w:=fun _=>rfl
  go_enter Tryz.func133,Tryz.ntmps133
  have b0:=hide (bl_new w (.cells #[] 5))
  go_wp2_with (refine apn elU8 (Ow.lit w 5 [] (by simp)) b0.out (Nat.le_refl _) (hr.below b0.out) (.tmp 5) (.tmp 6) rfl rfl rfl rfl HA.out Hone.out (by simp [maxLen];omega) (by simp;omega) ?_;intro A2 c2 w3 ho3 hb3;simp only [Nat.zero_add,List.nil_append,List.length_nil] at ho3)
  go_ret
  exact ⟨A2,c2,by simp,ho3,hb3⟩
theorem Take_gen (A:Option Addr) (n c:Nat) (p x a kk:Int) (A1:Option Addr) (k c1:Nat) (xs:List Int) (p' x' a':Int) (w:World)
 (N:∀ w,Calls Tryz.prog 127 #[cu A n c p x a,.int .i64 kk] w fun e w'=>e=.returned (.tuple #[.slice A1 k c1,cu A n c p' x' a'])∧Below w.heap.size w w')
 (hA1:A1=none→k=0∧c1=0) (hkm:k≤1000000) (hr1:Rd w A1 k (xs.map (Value.int .u8))) :
 Calls Tryz.prog 80 #[cu A n c p x a,.int .i64 kk] w fun e w'=>∃ A' c',e=.returned (.tuple #[.slice A' k c',cu A n c p' x' a']) ∧
  Ow w' w.heap.size 5 A' k c' (xs.map (Value.int .u8))∧Below w.heap.size w w':=by
 have HA1:=hide hA1
 have HN:=hide N
 clear hA1 N
 go_enter Tryz.func80,Tryz.ntmps80
 go_wp2_with fail
 refine (HN.out _).mono ?_
 rintro e w1 ⟨rfl,hb⟩
 have hz:w.heap.size+1<w1.heap.size:=by have:=hb.size;simp at this;omega
 have hb0:=hb
 have hb:=hide (bel_next (bl_alloc (bl_new _ _) _) hb)
 go_wp2_with fail
 have hrW:=hide (fun o=>((hr1.below hb.out).alloc o).drew)
 have B5:=hide (fun o=>(((Bx.snd4 w (.cells #[.slice A n c,.int .i64 p,.int .i64 x,.int .i64 a] 51) (.slice none 0 0) (.int .i64 0) (.int .i64 0) (.int .i64 0) 51).below hb0).alloc o).drew)
 have B7:=hide (Bx.new4 w1 (.slice A n c) (.int .i64 p') (.int .i64 x') (.int .i64 a') 51).drew
 go_region_with ((go_at_call 133;refine (Clone _ _ _ xs _ HA1.out hkm (hrW.out _)).mono ?_;rintro e w3 ⟨A3,c3,rfl,ho3,hb3⟩;obtain ⟨x0,x1,x2,x3⟩:=((B5.out _).below hb3).cells4;have y:=((B5.out _).below hb3).fr;obtain ⟨z0,z1,z2,z3⟩:=(B7.out.below hb3).cells4))
 all_goals
  have hlo:w.heap.size+1<(w1.alloc (.cells #[.slice A n c,.int .i64 p',.int .i64 x',.int .i64 a'] 51)).drew.heap.size:=by simp;omega
  have ho3:=hide ((((ho3.setLow 0 hlo (.slice A n c)).setLow 1 hlo (.int .i64 p')).setLow 2 hlo (.int .i64 x')).setLow 3 hlo (.int .i64 a'))
  have hlw:w.heap.size≤(w1.alloc (.cells #[.slice A n c,.int .i64 p',.int .i64 x',.int .i64 a'] 51)).drew.heap.size:=by omega
  have hb3:=hide (bel_next (bl_drew (bl_alloc hb.out _)) hb3)
  clear hlo
  go_wp2
  refine bodyPost_ret (v:=.tuple #[.slice A3 k c3,cu A n c p' x' a']) (by simp [results,Tryz.results80,go_sem,x0,x1,x2,x3]) rfl ⟨A3,c3,rfl,ho3.out.mono hlw,?_⟩
  repeat (first | exact hb3.out | refine bl_set ?_ (by omega) _ | refine bl_drew ?_ | refine bl_alloc ?_ _)
theorem Take_yes (A:Option Addr) (n c:Nat) (xs:List Int) (p k:Nat) (w:World) (hA:A=none→n=0∧c=0) (hn:n≤c) (hc:c≤9223372036854775807) (hm:n≤1000000) (h1:p+k≤n) (hr:Rd w A n (xs.map (Value.int .u8))) :
 Calls Tryz.prog 80 #[cu A n c p 0 0,.int .i64 k] w fun e w'=>∃ A' c',e=.returned (.tuple #[.slice A' k c',cu A n c ((p+k:Nat):Int) 0 0]) ∧
  Ow w' w.heap.size 5 A' k c' ((fld xs p k).map (Value.int .u8))∧Below w.heap.size w w':=by
 have hr1:Rd w (if c=p then A else A.map (·.add p)) k ((fld xs p k).map (Value.int .u8)):=by
  have:=(hr.cut (k:=p) (cap:=c) (by omega) hn).take (k:=k) (by omega)
  unfold fld
  rwa [List.map_take,List.map_drop]
 refine Take_gen A n c p 0 0 k _ k (c - p) _ _ 0 0 w (fun w=>next_yes A n c p k w hn hc h1) ?_ (by omega) hr1
 intro h
 have:A=none:=by
  split at h
  ·exact h
  ·simpa using h
 obtain ⟨rfl,rfl⟩:=hA this
 omega
theorem Take_no (A:Option Addr) (n c:Nat) (p a k:Int) (w:World) (hn:n≤9223372036854775807) (h0:0≤p) (h1:p≤n) (hk:k<0∨n - p<k) :
 Calls Tryz.prog 80 #[cu A n c p 0 a,.int .i64 k] w fun e w'=>∃ A' c',e=.returned (.tuple #[.slice A' 0 c',cu A n c p 1 n])∧Ow w' w.heap.size 5 A' 0 c' []∧Below w.heap.size w w' :=
 Take_gen A n c p 0 a k none 0 0 [] _ _ _ w (fun w=>next_no A n c p a k w hn h0 h1 hk) (fun _=>⟨rfl,rfl⟩) (by omega) (Rd.none_ w)
theorem fieldU_err (A:Option Addr) (n c:Nat) (p x a k:Int) (w:World) (hx:x≠0) :
 Calls Tryz.prog 198 #[cu A n c p x a,.int .i64 k,.func (.func 199) #[] #[]] w fun e w'=>e=.returned (.tuple #[.int .u64 0,cu A n c p x a])∧Below w.heap.size w w':=by
 go_enter Tryz.func198,Tryz.ntmps198
 go_wp2
 go_region
 all_goals go_wp2
 all_goals exact bodyPost_ret (v:=.tuple #[.int .u64 0,cu A n c p x a]) (by simp [results,Tryz.results198,go_sem]) rfl ⟨rfl,by first | exact bl_alloc (bl_new _ _) _ | exact bl_drew (bl_alloc (bl_new _ _) _)⟩
theorem fieldU_no (A:Option Addr) (n c:Nat) (p k:Int) (w:World) (hk:k=1∨k=4∨k=8) (hn:n≤9223372036854775807) (h1:p<0∨n<p+k) :
 Calls Tryz.prog 198 #[cu A n c p 0 0,.int .i64 k,.func (.func 199) #[] #[]] w fun e w'=>e=.returned (.tuple #[.int .u64 0,cu A n c p 1 n])∧Below w.heap.size w w':=by
 have D:=hide (fun w=>be_.Uint_no A n c p k w hk hn h1)
 clear hk h1
 go_enter Tryz.func198,Tryz.ntmps198
 go_wp2_with fail
 refine (D.out _).mono ?_
 rintro e w1 ⟨rfl,rfl⟩
 go_wp2_with fail
 refine (truncated _ _ _ _ _ _).mono ?_
 rintro e w1 ⟨rfl,hb⟩
 obtain ⟨hc,hf⟩:=bcell hb
 have hz:w.heap.size+1<w1.heap.size:=by have:=hb.size;simp at this;omega
 have hb:=hide (bel_next (bl_alloc (bl_new _ _) _) hb)
 go_wp2
 refine bodyPost_ret (v:=.tuple #[.int .u64 0,cu A n c p 1 n]) (by simp [results,Tryz.results198,go_sem,hc]) rfl ⟨rfl,?_⟩
 repeat (first | exact hb.out | refine bl_set ?_ (by omega) _)
theorem fieldU_yes (A:Option Addr) (n c:Nat) (l:List Int) (p k:Int) (w:World) (hk:k=1∨k=4∨k=8) (hn:n≤9223372036854775807) (h0:0≤p) (h1:p+k≤n)
 (hr:Rd w A n (l.map (Value.int .u8))) (hl:Bytes l) :
 Calls Tryz.prog 198 #[cu A n c p 0 0,.int .i64 k,.func (.func 199) #[] #[]] w fun e w'=>e=.returned (.tuple #[.int .u64 (uval (fld l p.toNat k.toNat)),cu A n c (p+k) 0 0])∧Below w.heap.size w w':=by
 have D:=hide (fun w hr=>be_.Uint_yes A n c l p k w hk hn h0 h1 hr hl)
 have hkb:1≤k∧k≤8:=by omega
 obtain ⟨k1,k2⟩:=hkb
 clear hk
 generalize uval (fld l p.toNat k.toNat)=v at *
 go_enter Tryz.func198,Tryz.ntmps198
 go_wp2_with fail
 refine (D.out _ ((hr.alloc _).alloc _)).mono ?_
 rintro e w1 ⟨rfl,rfl⟩
 go_wp2
 go_region
 all_goals go_wp2
 all_goals
  refine bodyPost_ret (v:=.tuple #[.int .u64 v,cu A n c (p+k) 0 0]) (by simp [results,Tryz.results198,go_sem]) rfl ⟨rfl,?_⟩
  repeat (first | exact bl_refl _ | refine bl_set ?_ (by omega) _ | refine bl_drew ?_ | refine bl_alloc ?_ _)
theorem Uint_gen (A:Option Addr) (n c:Nat) {l:List Int} (p x a k v p' x' a':Int) (w:World)
 (N:∀ w,Rd w A n (l.map (Value.int .u8))→Calls Tryz.prog 198 #[cu A n c p x a,.int .i64 k,.func (.func 199) #[] #[]] w fun e w'=>e=.returned (.tuple #[.int .u64 v,cu A n c p' x' a'])∧Below w.heap.size w w') (hr:Rd w A n (l.map (Value.int .u8))) :
 Calls Tryz.prog 158 #[cu A n c p x a,.int .i64 k] w fun e w'=>e=.returned (.tuple #[.int .u64 v,cu A n c p' x' a'])∧Below w.heap.size w w':=by
 have HN:=hide N
 clear N
 go_enter Tryz.func158,Tryz.ntmps158
 go_wp2_with fail
 refine (HN.out _ ((hr.alloc _).alloc _)).mono ?_
 rintro e w1 ⟨rfl,hb⟩
 obtain ⟨hc,hf⟩:=bcell hb
 have hz:w.heap.size+1<w1.heap.size:=by have:=hb.size;simp at this;omega
 have hb:=hide (bel_next (bl_alloc (bl_new _ _) _) hb)
 go_wp2
 refine bodyPost_ret (v:=.tuple #[.int .u64 v,cu A n c p' x' a']) (by simp [results,Tryz.results158,go_sem,hc]) rfl ⟨rfl,?_⟩
 repeat (first | exact hb.out | refine bl_set ?_ (by omega) _)
theorem Uint_yes (A:Option Addr) (n c:Nat) (l:List Int) (p k:Int) (w:World) (hk:k=1∨k=4∨k=8) (hn:n≤9223372036854775807) (h0:0≤p) (h1:p+k≤n) (hr:Rd w A n (l.map (Value.int .u8))) (hl:Bytes l) :
 Calls Tryz.prog 158 #[cu A n c p 0 0,.int .i64 k] w fun e w'=>e=.returned (.tuple #[.int .u64 (uval (fld l p.toNat k.toNat)),cu A n c (p+k) 0 0])∧Below w.heap.size w w' :=
 Uint_gen A n c p 0 0 k _ _ 0 0 w (fun w hr=>fieldU_yes A n c l p k w hk hn h0 h1 hr hl) hr
theorem Uint_no (A:Option Addr) (n c:Nat) (l:List Int) (p k:Int) (w:World) (hk:k=1∨k=4∨k=8) (hn:n≤9223372036854775807) (h1:p<0∨n<p+k) (hr:Rd w A n (l.map (Value.int .u8))) :
 Calls Tryz.prog 158 #[cu A n c p 0 0,.int .i64 k] w fun e w'=>e=.returned (.tuple #[.int .u64 0,cu A n c p 1 n])∧Below w.heap.size w w' :=
 Uint_gen A n c p 0 0 k _ _ 1 n w (fun w hr=>fieldU_no A n c p k w hk hn h1) hr
theorem Uint_err (A:Option Addr) (n c:Nat) (l:List Int) (p x a k:Int) (w:World) (hx:x≠0) (hr:Rd w A n (l.map (Value.int .u8))) :
 Calls Tryz.prog 158 #[cu A n c p x a,.int .i64 k] w fun e w'=>e=.returned (.tuple #[.int .u64 0,cu A n c p x a])∧Below w.heap.size w w' :=
 Uint_gen A n c p x a k _ _ _ _ w (fun w hr=>fieldU_err A n c p x a k w hx) hr
end cu_
end Go.Proofs.YtpapfpcehlhgeaaGreatDoor
