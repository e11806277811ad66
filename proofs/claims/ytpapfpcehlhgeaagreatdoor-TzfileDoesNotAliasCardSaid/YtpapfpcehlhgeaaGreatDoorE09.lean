/-
  Texts of mine in one file: Ps4. Their conditions stand in the theorems.
-/
import Derived.Test.YtpapfpcehlhgeaaGreatDoorE02
import Derived.Test.YtpapfpcehlhgeaaGreatDoorE07
import Derived.WalkLawsBesides
import Derived.Test.YtpapfpcehlhgeaaGreatDoorE08
import Derived.Lib.AtoiErrMem
import Derived.Defers
import Derived.Recover
import Derived.Deep.RegionHeld3
import Derived.Deep.DeepCutAuto
namespace Go.Proofs.YtpapfpcehlhgeaaGreatDoor
set_option linter.unusedVariables false
set_option linter.unusedSimpArgs false
set_option maxRecDepth 100000
set_option maxHeartbeats 16000000
open Go.ChangeShapes Go.WideShapes Go.ChangeAt Go.RowKit
theorem Ro.but {b g:Nat} {w w1:World} {vs:Array Value} {T:TypeId} (h:Ro w g vs T) (hb:But b w w1) (hne:g≠b):Ro w1 g vs T:=(hb.block g h.lt hne).trans h
def Pz (w:World) (b:Nat) (s:ByteArray) (k:Int):Prop:=Bx w b [.string s,.int .i64 k]
theorem Pz.cells {w:World} {b:Nat} {s:ByteArray} {k:Int} (h:Pz w b s k):b<w.heap.size∧w.cell? ⟨b,0,none⟩=some (.string s)∧w.cell? ⟨b,1,none⟩=some (.int .i64 k)∧w.frozen? ⟨b,1,none⟩=false:=⟨h.1,h.2.1 0 _ rfl,h.2.1 1 _ rfl,h.2.2 1⟩
theorem Pz.below {w w1:World} {b:Nat} {s:ByteArray} {k:Int} (h:Pz w b s k) (hb:Below w.heap.size w w1):Pz w1 b s k:=Bx.below h hb
theorem Pz.set {w:World} {b:Nat} {s:ByteArray} {k:Int} (h:Pz w b s k) (j:Int):Pz (w.setCell ⟨b,1,none⟩ (.int .i64 j)) b s j:=Bx.set h 1 _ (by simp)
def fail (q:Int):Ending:=.panicked [{ v:=.iface 247 (.int .i64 q),recovered:=false }]
abbrev rst (s:ByteArray) (k:Nat):List UInt8:=(byt s).drop k
theorem rst_mk (s:ByteArray) (k:Nat):s.extract k s.size=mkS (rst s k):=by
 rw [← byt_inj,byt_extract,byt_mk,List.take_of_length_le (by rw [len_byt];exact Nat.le_refl _)]
theorem rst_size (s:ByteArray) (k:Nat):(mkS (rst s k)).size≤s.size:=by rw [size_mk,List.length_drop,len_byt];omega
namespace po_
theorem rest_ (s:ByteArray) (k b:Nat) (w:World) (hs:s.size≤1000000) (hk:k≤s.size) (hp:Pz w b s k) :
 Calls Tryz.prog 215 #[.pointer (some ⟨b,0,none⟩)] w fun e w'=>e=.returned (.string (mkS (rst s k)))∧Below w.heap.size w w':=by
 have hR:=hide (rst_mk s k)
 obtain ⟨h0,h1,h2,h3⟩:=hp.cells
 clear hp
 go_enter Tryz.func215,Tryz.ntmps215
 go_wp2_with fail
 go_region
 go_wp2
 go_ret
 exact ⟨retS2 hR.out,bl_drew (bl_refl _)⟩
theorem require_yes (b:Nat) (w:World):Calls Tryz.prog 217 #[.pointer (some ⟨b,0,none⟩),.bool true] w fun e w'=>e=.returned (.tuple #[])∧w=w':=by
 go_enter Tryz.func217,Tryz.ntmps217
 go_wp2
 go_end0
 exact ⟨rfl,rfl⟩
theorem require_no (s:ByteArray) (k:Int) (b:Nat) (w:World) (hp:Pz w b s k):Calls Tryz.prog 217 #[.pointer (some ⟨b,0,none⟩),.bool false] w fun e w'=>e=fail k∧w=w':=by
 obtain ⟨h0,h1,h2,h3⟩:=hp.cells
 clear hp
 go_enter Tryz.func217,Tryz.ntmps217
 go_wp2
 exact ⟨rfl,rfl,rfl⟩
theorem HasPre_ (l:List UInt8) (c:UInt8) (w:World) (hl:l.length≤1000000):Calls Tryz.prog 289 #[.string (mkS l),.string ⟨#[c]⟩] w fun e w'=>e=.returned (.bool (decide (l.head?=some c)))∧w=w':=by
 obtain ⟨s,hs⟩:∃ s,s=mkS l:=⟨_,rfl⟩
 have hz:s.size=l.length:=by rw [hs,size_mk]
 rw [← hs]
 cases l with
 | nil =>
   have e:s=⟨#[]⟩:=by rw [hs];rfl
   subst e
   clear hs hz
   go_enter Tryz.func289,Tryz.ntmps289
   go_wp2
   go_ret
   exact ⟨rfl,rfl⟩
 | cons a t =>
   have hx:s.extract 0 1=⟨#[a]⟩:=by
    apply byt_inj.1
    rw [byt_extract,hs,byt_mk]
    simp [byt]
   have i1:(1:Int)≤(s.size:Int):=by rw [hz];simp;omega
   have hn:s.size≤1000000:=by omega
   clear hs hz
   by_cases h1:a=c
   ·subst h1
    have q1:((s.extract 0 1).toList == (⟨#[a]⟩:ByteArray).toList)=true:=seq_eq hx
    go_enter Tryz.func289,Tryz.ntmps289
    go_wp2
    go_ret
    exact ⟨retb (by simp),rfl⟩
   ·have q1:((s.extract 0 1).toList == (⟨#[c]⟩:ByteArray).toList)=false:=seq_ne (by rw [hx];intro e;apply h1;simpa using e)
    go_enter Tryz.func289,Tryz.ntmps289
    go_wp2
    go_ret
    exact ⟨retb (by simp [h1]),rfl⟩
theorem HasPre (l:List UInt8) (c:UInt8) (w:World) (hl:l.length≤1000000):Calls Tryz.prog 281 #[.string (mkS l),.string ⟨#[c]⟩] w fun e w'=>e=.returned (.bool (decide (l.head?=some c)))∧w=w':=by
 have C:=hide (fun w=>HasPre_ l c w hl)
 go_enter Tryz.func281,Tryz.ntmps281
 go_wp2_with (refine (C.out _).mono ?_;rintro e w' ⟨rfl,rfl⟩)
 go_ret
 exact ⟨rfl,rfl⟩
theorem skip_yes (s:ByteArray) (k b:Nat) (c:UInt8) (t:List UInt8) (w:World) (hs:s.size≤1000000) (hk:k≤s.size) (hp:Pz w b s k) (hc:rst s k=c :: t) :
 Calls Tryz.prog 264 #[.pointer (some ⟨b,0,none⟩),.string ⟨#[c]⟩] w fun e w'=>e=.returned (.bool true)∧Pz w' b s ((k:Int)+1)∧But b w w':=by
 have R:=hide (fun w hp=>rest_ s k b w hs hk hp)
 have H:=hide (fun w=>HasPre (rst s k) c w (by have:=rst_size s k;rw [size_mk] at this;omega))
 have hd:decide ((rst s k).head?=some c)=true:=by rw [hc];simp
 generalize decide ((rst s k).head?=some c)=d at H hd
 clear hc
 subst hd
 have P:=hide hp
 clear hp
 go_enter Tryz.func264,Tryz.ntmps264
 go_wp2_with fail
 refine (R.out _ P.out).mono ?_
 rintro e w1 ⟨rfl,hb⟩
 have P1:=hide (P.out.below hb)
 go_wp2_with fail
 refine (H.out _).mono ?_
 rintro e w' ⟨rfl,rfl⟩
 have B1:=hide (But.of (b:=b) hb)
 obtain ⟨h0,h1,h2,h3⟩:=P1.out.cells
 clear P hb
 go_wp2
 go_ret
 exact ⟨rfl,P1.out.set _,B1.out.set _⟩
theorem skip_no (s:ByteArray) (k b:Nat) (c:UInt8) (w:World) (hs:s.size≤1000000) (hk:k≤s.size) (hp:Pz w b s k) (hc:(rst s k).head?≠some c) :
 Calls Tryz.prog 264 #[.pointer (some ⟨b,0,none⟩),.string ⟨#[c]⟩] w fun e w'=>e=.returned (.bool false)∧Below w.heap.size w w':=by
 have R:=hide (fun w hp=>rest_ s k b w hs hk hp)
 have H:=hide (fun w=>HasPre (rst s k) c w (by have:=rst_size s k;rw [size_mk] at this;omega))
 rw [decide_eq_false hc] at H
 have P:=hide hp
 clear hp hc
 go_enter Tryz.func264,Tryz.ntmps264
 go_wp2_with fail
 refine (R.out _ P.out).mono ?_
 rintro e w1 ⟨rfl,hb⟩
 go_wp2_with fail
 refine (H.out _).mono ?_
 rintro e w' ⟨rfl,rfl⟩
 go_wp2
 go_ret
 exact ⟨rfl,hb⟩
theorem expect_yes (s:ByteArray) (k b:Nat) (c:UInt8) (t:List UInt8) (w:World) (hs:s.size≤1000000) (hk:k≤s.size) (hp:Pz w b s k) (hc:rst s k=c :: t) :
 Calls Tryz.prog 241 #[.pointer (some ⟨b,0,none⟩),.string ⟨#[c]⟩] w fun e w'=>e=.returned (.tuple #[])∧Pz w' b s ((k:Int)+1)∧But b w w':=by
 have R:=hide (skip_yes s k b c t w hs hk hp hc)
 have Q:=hide (fun w=>require_yes b w)
 clear hp hc
 go_enter Tryz.func241,Tryz.ntmps241
 go_wp2_with fail
 refine R.out.mono ?_
 rintro e w1 ⟨rfl,hp,hb⟩
 go_wp2_with fail
 refine (Q.out _).mono ?_
 rintro e w' ⟨rfl,rfl⟩
 go_wp2
 go_end0
 exact ⟨rfl,hp,hb⟩
theorem expect_no (s:ByteArray) (k b:Nat) (c:UInt8) (w:World) (hs:s.size≤1000000) (hk:k≤s.size) (hp:Pz w b s k) (hc:(rst s k).head?≠some c) :
 Calls Tryz.prog 241 #[.pointer (some ⟨b,0,none⟩),.string ⟨#[c]⟩] w fun e w'=>e=fail k∧Below w.heap.size w w':=by
 have R:=hide (skip_no s k b c w hs hk hp hc)
 have Q:=hide (fun w hp=>require_no s k b w hp)
 have P:=hide hp
 clear hp hc
 go_enter Tryz.func241,Tryz.ntmps241
 go_wp2_with fail
 refine R.out.mono ?_
 rintro e w1 ⟨rfl,hb⟩
 have P1:=hide (P.out.below hb)
 go_wp2_with fail
 refine (Q.out _ P1.out).mono ?_
 rintro e w' ⟨rfl,rfl⟩
 unfold fail
 go_wp2
 exact ⟨rfl,rfl,hb⟩
end po_
def digits:List UInt8:=[48,49,50,51,52,53,54,55,56,57]
theorem dig_in (c:UInt8):digits.contains c=dig c:=by
 have h:∀ n:Fin 256,digits.contains (UInt8.ofNat n.val)=dig (UInt8.ofNat n.val):=by decide +kernel
 have:=h ⟨c.toNat,c.toNat_lt⟩
 simpa using this
theorem trim_dig (l:List UInt8):Lib.trimLeftS l digits=l.drop (l.takeWhile dig).length:=by
 refine Lib.trimLeftS_drop l digits _ (tw_le _ _) (fun j b hj hb=>?_) (fun b hb=>?_)
 ·obtain ⟨hl,rfl⟩:=List.getElem?_eq_some_iff.1 hb
  rw [dig_in]
  exact tw_lt hj hl
 ·obtain ⟨hl,rfl⟩:=List.getElem?_eq_some_iff.1 hb
  rw [dig_in]
  exact tw_at hl
theorem dec_dig:∀ (D:List UInt8) (a:Nat),(∀ c ∈ D,dig c=true)→∃ n:Nat,Lib.decFrom a D=some n∧(n:Int)=D.foldl (fun (h:Int) (c:UInt8)=>10 * h+c.toNat - 48) (a:Int)
 | [],a,_=>⟨a,rfl,rfl⟩
 | c :: t,a,h=>by
   have hc:=r8_.dig_bd (h c (by simp))
   obtain ⟨n,h1,h2⟩:=dec_dig t (a * 10+(c.toNat - 48)) (fun x hx=>h x (by simp [hx]))
   refine ⟨n,?_,?_⟩
   ·simp only [Lib.decFrom]
    rw [show Lib.digitVal c=some (c.toNat - 48) by unfold Lib.digitVal;rw [if_pos (by omega)]]
    exact h1
   ·rw [h2,List.foldl_cons]
    congr 1
    omega
theorem atoi_dig {D:List UInt8} (h:∀ c ∈ D,dig c=true) (h0:D≠[]):Lib.atoi D=some (dval D):=by
 obtain ⟨n,h1,h2⟩:=dec_dig D 0 h
 cases D with
 | nil=>exact absurd rfl h0
 | cons c t =>
   have hc:=r8_.dig_bd (h c (by simp))
   have n1:¬ ((c == 45)=true):=fun e=>by
    rw [beq_iff_eq] at e
    subst e
    exact absurd hc.1 (by decide)
   have n2:¬ ((c == 43)=true):=fun e=>by
    rw [beq_iff_eq] at e
    subst e
    exact absurd hc.1 (by decide)
   have e:Lib.decNat (c :: t)=some n:=by
    unfold Lib.decNat
    rw [if_neg (by simp),h1]
   simp only [Lib.atoi,n1,n2,e,if_false,Bool.false_eq_true,Option.map_some]
   rw [h2]
   rfl
namespace po_
theorem TrimLeft_ (l:List UInt8) (w:World):Calls Tryz.prog 308 #[.string (mkS l),.string ⟨#[48,49,50,51,52,53,54,55,56,57]⟩] w fun e w'=>e=.returned (.string (mkS (l.drop (l.takeWhile dig).length)))∧Below w.heap.size w w':=by
 refine (Any.strings_TrimLeft_laid Tryz.laysTrimLeft (by kernel_rfl) (mkS l) ⟨#[48,49,50,51,52,53,54,55,56,57]⟩ w (by decide) (ascii_of_all (by decide))).mono ?_
 rintro e w' ⟨rfl,hb⟩
 refine ⟨retS2 ?_,hb⟩
 show mkS (Lib.trimLeftS (byt (mkS l)) digits)=_
 rw [byt_mk,trim_dig]
theorem Atoi_ (D:List UInt8) (w:World) (h:∀ c ∈ D,dig c=true) (h0:D≠[]) (h3:D.length≤3):Calls Tryz.prog 309 #[.string (mkS D)] w fun e w'=>e=.returned (.tuple #[.int .i64 (dval D),.nilIface])∧Below w.heap.size w w':=by
 refine (Any.strconv_Atoi Tryz.laysAtoi (mkS D) (dval D) (by rw [size_mk];omega) (by show Lib.atoi (byt (mkS D))=_;rw [byt_mk];exact atoi_dig h h0) w).mono ?_
 rintro e w' ⟨rfl,t,rfl⟩
 exact ⟨rfl,Lib.bytesWorld_below w _ t⟩
theorem num_cut {L:List UInt8} {v:Int} {n:Nat} (h:ptNum L=some (v,n)):n=(L.takeWhile dig).length∧v=dval (L.takeWhile dig)∧1≤n∧n≤3∧n≤L.length:=by
 have b:=ptNum_some h
 unfold ptNum at h
 split at h
 ·cases h
  exact ⟨rfl,rfl,b.1,b.2.1,b.2.2.1⟩
 ·cases h
theorem num_none {L:List UInt8} (h:ptNum L=none):(L.takeWhile dig).length=0∨3<(L.takeWhile dig).length:=by
 unfold ptNum at h
 split at h
 ·cases h
 ·omega
theorem number_yes (s:ByteArray) (k b:Nat) (v:Int) (n:Nat) (w:World) (hs:s.size≤1000000) (hk:k≤s.size) (hp:Pz w b s k) (h:ptNum (rst s k)=some (v,n)) :
 Calls Tryz.prog 297 #[.pointer (some ⟨b,0,none⟩)] w fun e w'=>e=.returned (.int .i64 v)∧Pz w' b s ((k:Int)+n)∧But b w w':=by
 obtain ⟨h1,h2,h3,h4,h5⟩:=num_cut h
 have hn:k+n≤s.size:=by rw [List.length_drop,len_byt] at h5;omega
 have R:=hide (fun w hp=>rest_ s k b w hs hk hp)
 have T:=hide (fun w=>TrimLeft_ (rst s k) w)
 have A:=hide (fun w=>Atoi_ ((rst s k).takeWhile dig) w (fun c hc=>r8_.tw_all' hc) (by intro e;rw [e] at h1;simp at h1;omega) (by omega))
 have hx:(mkS (rst s k)).extract 0 n=mkS ((rst s k).takeWhile dig):=by
  rw [← byt_inj,byt_extract,byt_mk,byt_mk,h1,List.drop_zero]
  exact (List.prefix_iff_eq_take.1 (List.takeWhile_prefix (p:=dig) (l:=rst s k))).symm
 rw [← h1] at T
 rw [← h2] at A
 obtain ⟨m,hm⟩:∃ m:Nat,(mkS (rst s k)).size=m:=⟨_,rfl⟩
 have hm2:(mkS ((rst s k).drop n)).size=m - n:=by rw [size_mk] at hm ⊢;rw [List.length_drop];omega
 have hm3:m≤1000000:=by have:=rst_size s k;omega
 have hm4:n≤m:=by rw [size_mk] at hm;omega
 generalize mkS (rst s k)=X at *
 generalize mkS ((rst s k).drop n)=Y at *
 generalize mkS ((rst s k).takeWhile dig)=Z at *
 have P:=hide hp
 clear hp h h1 h2 h5 hk
 have e1:IntKind.i64.wrap ((m:Int) - ((m - n:Nat):Int))=(n:Int):=by rw [IntKind.wrap_i64];omega
 have e2:((X.size:Nat):Int)=(m:Int):=by rw [hm]
 have e3:((Y.size:Nat):Int)=((m - n:Nat):Int):=by rw [hm2]
 have q1:decide ((n:Int)≤3)=true:=by simp;omega
 go_enter Tryz.func297,Tryz.ntmps297
 go_wp2_with fail
 refine (R.out _ P.out).mono ?_
 rintro e w1 ⟨rfl,hb⟩
 have P1:=hide (P.out.below hb)
 go_wp2_with fail
 refine (R.out _ P1.out).mono ?_
 rintro e w2 ⟨rfl,hb2⟩
 have P2:=hide (P1.out.below hb2)
 have B2:=hide ((But.of (b:=b) hb).next hb2)
 clear P P1 hb hb2
 go_wp2_with fail
 refine (T.out _).mono ?_
 rintro e w3 ⟨rfl,hb3⟩
 have P3:=hide (P2.out.below hb3)
 have B3:=hide (B2.out.next hb3)
 clear P2 B2 hb3
 go_wp2_with fail
 refine (require_yes b _).mono ?_
 rintro e w' ⟨rfl,rfl⟩
 go_wp2_with fail
 refine (R.out _ P3.out).mono ?_
 rintro e w4 ⟨rfl,hb4⟩
 have P4:=hide (P3.out.below hb4)
 have B4:=hide (B3.out.next hb4)
 clear P3 B3 hb4
 go_wp2_with fail
 refine (A.out _).mono ?_
 rintro e w5 ⟨rfl,hb5⟩
 have P5:=hide (P4.out.below hb5)
 have B5:=hide (B4.out.next hb5)
 clear P4 B4 hb5
 go_wp2_with fail
 refine (require_yes b _).mono ?_
 rintro e w' ⟨rfl,rfl⟩
 obtain ⟨h0,h1,h2,h3⟩:=P5.out.cells
 go_wp2
 go_ret
 exact ⟨rfl,P5.out.set _,B5.out.set _⟩
theorem number_no (s:ByteArray) (k b:Nat) (w:World) (hs:s.size≤1000000) (hk:k≤s.size) (hp:Pz w b s k) (h:ptNum (rst s k)=none) :
 Calls Tryz.prog 297 #[.pointer (some ⟨b,0,none⟩)] w fun e w'=>e=fail k∧Below w.heap.size w w':=by
 have h0:=num_none h
 have h9:=tw_le dig (rst s k)
 have R:=hide (fun w hp=>rest_ s k b w hs hk hp)
 have T:=hide (fun w=>TrimLeft_ (rst s k) w)
 generalize ((rst s k).takeWhile dig).length=n at *
 obtain ⟨m,hm⟩:∃ m:Nat,(mkS (rst s k)).size=m:=⟨_,rfl⟩
 have hm2:(mkS ((rst s k).drop n)).size=m - n:=by rw [size_mk] at hm ⊢;rw [List.length_drop];omega
 have hm3:m≤1000000:=by have:=rst_size s k;omega
 have hm4:n≤m:=by rw [size_mk] at hm;omega
 generalize mkS (rst s k)=X at *
 generalize mkS ((rst s k).drop n)=Y at *
 have P:=hide hp
 clear hp h hk h9
 have e1:IntKind.i64.wrap ((m:Int) - ((m - n:Nat):Int))=(n:Int):=by rw [IntKind.wrap_i64];omega
 have e2:((X.size:Nat):Int)=(m:Int):=by rw [hm]
 have e3:((Y.size:Nat):Int)=((m - n:Nat):Int):=by rw [hm2]
 rcases h0 with h0 | h0
 ·subst h0
  clear hm4
  go_enter Tryz.func297,Tryz.ntmps297
  go_wp2_with fail
  refine (R.out _ P.out).mono ?_
  rintro e w1 ⟨rfl,hb⟩
  have P1:=hide (P.out.below hb)
  go_wp2_with fail
  refine (R.out _ P1.out).mono ?_
  rintro e w2 ⟨rfl,hb2⟩
  have P2:=hide (P1.out.below hb2)
  have B2:=hide (bel_next hb hb2)
  clear P P1 hb hb2
  go_wp2_with fail
  refine (T.out _).mono ?_
  rintro e w3 ⟨rfl,hb3⟩
  have P3:=hide (P2.out.below hb3)
  have B3:=hide (bel_next B2.out hb3)
  clear P2 B2 hb3
  go_wp2_with fail
  refine (require_no s k b _ P3.out).mono ?_
  rintro e w' ⟨rfl,rfl⟩
  unfold fail
  go_wp2
  exact ⟨rfl,rfl,B3.out⟩
 ·have q1:decide ((n:Int)≤3)=false:=by simp;omega
  go_enter Tryz.func297,Tryz.ntmps297
  go_wp2_with fail
  refine (R.out _ P.out).mono ?_
  rintro e w1 ⟨rfl,hb⟩
  have P1:=hide (P.out.below hb)
  go_wp2_with fail
  refine (R.out _ P1.out).mono ?_
  rintro e w2 ⟨rfl,hb2⟩
  have P2:=hide (P1.out.below hb2)
  have B2:=hide (bel_next hb hb2)
  clear P P1 hb hb2
  go_wp2_with fail
  refine (T.out _).mono ?_
  rintro e w3 ⟨rfl,hb3⟩
  have P3:=hide (P2.out.below hb3)
  have B3:=hide (bel_next B2.out hb3)
  clear P2 B2 hb3
  go_wp2_with fail
  refine (require_no s k b _ P3.out).mono ?_
  rintro e w' ⟨rfl,rfl⟩
  unfold fail
  go_wp2
  exact ⟨rfl,rfl,B3.out⟩
theorem designation_yes (s:ByteArray) (k b:Nat) (q:List UInt8) (n:Nat) (w:World) (hs:s.size≤1000000) (hk:k≤s.size) (hp:Pz w b s k) (h:tnParse (rst s k)=some (q,n)) :
 Calls Tryz.prog 213 #[.pointer (some ⟨b,0,none⟩)] w fun e w'=>e=.returned (.string (mkS q))∧Pz w' b s ((k:Int)+n)∧But b w w':=by
 have hn:k+n≤s.size:=by have:=(tnParse_some h).2.1;rw [List.length_drop,len_byt] at this;omega
 have R:=hide (fun w hp=>rest_ s k b w hs hk hp)
 have T:=hide (fun w=>tn_.Parse (mkS (rst s k)) w (by have:=rst_size s k;omega))
 simp only [byt_mk,h,tnRes] at T
 have P:=hide hp
 clear hp h
 go_enter Tryz.func213,Tryz.ntmps213
 go_wp2_with fail
 refine (R.out _ P.out).mono ?_
 rintro e w1 ⟨rfl,hb⟩
 have P1:=hide (P.out.below hb)
 go_wp2_with fail
 refine (T.out _).mono ?_
 rintro e w2 ⟨rfl,hb2⟩
 have P2:=hide (P1.out.below hb2)
 have B2:=hide ((But.of (b:=b) hb).next hb2)
 clear P P1 hb hb2
 go_wp2_with fail
 refine (require_yes b _).mono ?_
 rintro e w' ⟨rfl,rfl⟩
 obtain ⟨h0,h1,h2,h3⟩:=P2.out.cells
 go_wp2
 go_ret
 exact ⟨rfl,P2.out.set _,B2.out.set _⟩
theorem designation_no (s:ByteArray) (k b:Nat) (w:World) (hs:s.size≤1000000) (hk:k≤s.size) (hp:Pz w b s k) (h:tnParse (rst s k)=none) :
 Calls Tryz.prog 213 #[.pointer (some ⟨b,0,none⟩)] w fun e w'=>e=fail k∧Below w.heap.size w w':=by
 have R:=hide (fun w hp=>rest_ s k b w hs hk hp)
 have T:=hide (fun w=>tn_.Parse (mkS (rst s k)) w (by have:=rst_size s k;omega))
 simp only [byt_mk,h,tnRes] at T
 have P:=hide hp
 clear hp h
 go_enter Tryz.func213,Tryz.ntmps213
 go_wp2_with fail
 refine (R.out _ P.out).mono ?_
 rintro e w1 ⟨rfl,hb⟩
 have P1:=hide (P.out.below hb)
 go_wp2_with fail
 refine (T.out _).mono ?_
 rintro e w2 ⟨rfl,hb2⟩
 have P2:=hide (P1.out.below hb2)
 have B2:=hide (bel_next hb hb2)
 clear P P1 hb hb2
 go_wp2_with fail
 refine (require_no s k b _ P2.out).mono ?_
 rintro e w' ⟨rfl,rfl⟩
 unfold fail
 go_wp2
 exact ⟨rfl,rfl,B2.out⟩
theorem duration_yes (s:ByteArray) (k b:Nat) (v:Int) (n:Nat) (w:World) (hs:s.size≤1000000) (hk:k≤s.size) (hp:Pz w b s k) (h:hmsParse (rst s k)=some (v,n)) :
 Calls Tryz.prog 291 #[.pointer (some ⟨b,0,none⟩)] w fun e w'=>e=.returned (.int .i64 v)∧Pz w' b s ((k:Int)+n)∧But b w w':=by
 have hn:k+n≤s.size:=by have:=(parse_prefix h).2.1;rw [List.length_drop,len_byt] at this;omega
 have R:=hide (fun w hp=>rest_ s k b w hs hk hp)
 have T:=hide (fun w=>hm_.Parse (mkS (rst s k)) w (by have:=rst_size s k;omega))
 simp only [byt_mk,h,hmsRes] at T
 have P:=hide hp
 clear hp h
 go_enter Tryz.func291,Tryz.ntmps291
 go_wp2_with fail
 refine (R.out _ P.out).mono ?_
 rintro e w1 ⟨rfl,hb⟩
 have P1:=hide (P.out.below hb)
 go_wp2_with fail
 refine (T.out _).mono ?_
 rintro e w2 ⟨rfl,hb2⟩
 have P2:=hide (P1.out.below hb2)
 have B2:=hide ((But.of (b:=b) hb).next hb2)
 clear P P1 hb hb2
 go_wp2_with fail
 refine (require_yes b _).mono ?_
 rintro e w' ⟨rfl,rfl⟩
 obtain ⟨h0,h1,h2,h3⟩:=P2.out.cells
 go_wp2
 go_ret
 exact ⟨rfl,P2.out.set _,B2.out.set _⟩
theorem duration_no (s:ByteArray) (k b:Nat) (w:World) (hs:s.size≤1000000) (hk:k≤s.size) (hp:Pz w b s k) (h:hmsParse (rst s k)=none) :
 Calls Tryz.prog 291 #[.pointer (some ⟨b,0,none⟩)] w fun e w'=>e=fail k∧Below w.heap.size w w':=by
 have R:=hide (fun w hp=>rest_ s k b w hs hk hp)
 have T:=hide (fun w=>hm_.Parse (mkS (rst s k)) w (by have:=rst_size s k;omega))
 simp only [byt_mk,h,hmsRes] at T
 have P:=hide hp
 clear hp h
 go_enter Tryz.func291,Tryz.ntmps291
 go_wp2_with fail
 refine (R.out _ P.out).mono ?_
 rintro e w1 ⟨rfl,hb⟩
 have P1:=hide (P.out.below hb)
 go_wp2_with fail
 refine (T.out _).mono ?_
 rintro e w2 ⟨rfl,hb2⟩
 have P2:=hide (P1.out.below hb2)
 have B2:=hide (bel_next hb hb2)
 clear P P1 hb hb2
 go_wp2_with fail
 refine (require_no s k b _ P2.out).mono ?_
 rintro e w' ⟨rfl,rfl⟩
 unfold fail
 go_wp2
 exact ⟨rfl,rfl,B2.out⟩
theorem inRange_ (v:Int) (w:World) (h0:-9223372036854775808≤v) (h1:v<9223372036854775808):Calls Tryz.prog 218 #[.int .i64 v] w fun e w'=>e=.returned (.bool (decide (offOk v)))∧w=w':=by
 have hd:decide (offOk v)=(decide (-89999≤v) && decide (v≤89999)):=by rw [Bool.eq_iff_iff,decide_eq_true_iff,Bool.and_eq_true,decide_eq_true_iff,decide_eq_true_iff];exact Iff.rfl
 rw [hd]
 clear hd
 rcases (show v < -89999∨89999<v∨(-89999≤v∧v≤89999) by omega) with a | a | ⟨a,c⟩
 all_goals
  clear h0 h1
  go_enter Tryz.func218,Tryz.ntmps218
  go_wp2
  go_ret
  exact ⟨retb (by rw [Bool.eq_iff_iff];simp;omega),rfl⟩
theorem offset_yes (s:ByteArray) (k b:Nat) (v:Int) (n:Nat) (w:World) (hs:s.size≤1000000) (hk:k≤s.size) (hp:Pz w b s k) (h:hmsParse (rst s k)=some (v,n)) (ho:offOk v) :
 Calls Tryz.prog 214 #[.pointer (some ⟨b,0,none⟩)] w fun e w'=>e=.returned (.int .i64 (-v))∧Pz w' b s ((k:Int)+n)∧But b w w':=by
 have hn:k+n≤s.size:=by have:=(parse_prefix h).2.1;rw [List.length_drop,len_byt] at this;omega
 have R:=hide (fun w hp=>rest_ s k b w hs hk hp)
 have T:=hide (fun w=>hm_.Parse (mkS (rst s k)) w (by have:=rst_size s k;omega))
 simp only [byt_mk,h,hmsRes] at T
 have I:=hide (fun w=>inRange_ v w (by unfold offOk at ho;omega) (by unfold offOk at ho;omega))
 rw [decide_eq_true ho] at I
 have P:=hide hp
 have hv:-89999≤v∧v≤89999:=ho
 obtain ⟨hv0,hv1⟩:=hv
 clear hp h ho
 go_enter Tryz.func214,Tryz.ntmps214
 go_wp2_with fail
 refine (R.out _ P.out).mono ?_
 rintro e w1 ⟨rfl,hb⟩
 have P1:=hide (P.out.below hb)
 go_wp2_with fail
 refine (T.out _).mono ?_
 rintro e w2 ⟨rfl,hb2⟩
 have P2:=hide (P1.out.below hb2)
 have B2:=hide ((But.of (b:=b) hb).next hb2)
 clear P P1 hb hb2
 go_wp2_with fail
 refine (I.out _).mono ?_
 rintro e w' ⟨rfl,rfl⟩
 go_wp2_with fail
 refine (require_yes b _).mono ?_
 rintro e w' ⟨rfl,rfl⟩
 obtain ⟨h0,h1,h2,h3⟩:=P2.out.cells
 go_wp2
 go_ret
 exact ⟨rfl,P2.out.set _,B2.out.set _⟩
theorem offset_no (s:ByteArray) (k b:Nat) (w:World) (hs:s.size≤1000000) (hk:k≤s.size) (hp:Pz w b s k) (h:hmsParse (rst s k)=none∨∃ v n,hmsParse (rst s k)=some (v,n)∧¬ offOk v) :
 Calls Tryz.prog 214 #[.pointer (some ⟨b,0,none⟩)] w fun e w'=>e=fail k∧Below w.heap.size w w':=by
 have R:=hide (fun w hp=>rest_ s k b w hs hk hp)
 have T:=hide (fun w=>hm_.Parse (mkS (rst s k)) w (by have:=rst_size s k;omega))
 simp only [byt_mk] at T
 have P:=hide hp
 clear hp
 rcases h with h | ⟨v,n,h,ho⟩
 ·simp only [h,hmsRes] at T
  clear h
  go_enter Tryz.func214,Tryz.ntmps214
  go_wp2_with fail
  refine (R.out _ P.out).mono ?_
  rintro e w1 ⟨rfl,hb⟩
  have P1:=hide (P.out.below hb)
  go_wp2_with fail
  refine (T.out _).mono ?_
  rintro e w2 ⟨rfl,hb2⟩
  have P2:=hide (P1.out.below hb2)
  have B2:=hide (bel_next hb hb2)
  clear P P1 hb hb2
  go_wp2_with fail
  refine (require_no s k b _ P2.out).mono ?_
  rintro e w' ⟨rfl,rfl⟩
  unfold fail
  go_wp2
  exact ⟨rfl,rfl,B2.out⟩
 ·have I:=hide (fun w=>inRange_ v w (by have:=parse_prefix h;omega) (by have:=parse_prefix h;omega))
  rw [decide_eq_false ho] at I
  simp only [h,hmsRes] at T
  clear h ho
  go_enter Tryz.func214,Tryz.ntmps214
  go_wp2_with fail
  refine (R.out _ P.out).mono ?_
  rintro e w1 ⟨rfl,hb⟩
  have P1:=hide (P.out.below hb)
  go_wp2_with fail
  refine (T.out _).mono ?_
  rintro e w2 ⟨rfl,hb2⟩
  have P2:=hide (P1.out.below hb2)
  have B2:=hide (bel_next hb hb2)
  clear P P1 hb hb2
  go_wp2_with fail
  refine (I.out _).mono ?_
  rintro e w' ⟨rfl,rfl⟩
  go_wp2_with fail
  refine (require_no s k b _ P2.out).mono ?_
  rintro e w' ⟨rfl,rfl⟩
  unfold fail
  go_wp2
  exact ⟨rfl,rfl,B2.out⟩
end po_
theorem Pz.cast {w:World} {b:Nat} {s:ByteArray} {k j:Int} (h:Pz w b s k) (e:k=j):Pz w b s j:=e ▸ h
theorem Pz.set_ne {w:World} {b g:Nat} {s:ByteArray} {k:Int} (h:Pz w b s k) (o:Nat) (hne:g≠b) (v:Value):Pz (w.setCell ⟨g,o,none⟩ v) b s k:=Bx.set_ne h o hne v
theorem Bx.row {w:World} {b g:Nat} {vs:List Value} (h:Bx w b vs) (hne:b≠g) (cs:Array Value):Bx (w.setRow g cs) b vs:=by
 have e:(w.setRow g cs).heap[b]?=w.heap[b]?:=setRow_other w g b cs hne
 refine ⟨by have:=h.1;rw [size_setRow];exact this,fun j v hj=>by rw [World.cell?_of_block (w:=w) (a:=⟨b,j,none⟩) e];exact h.2.1 j v hj,fun j=>by rw [World.frozen?_of_block (w:=w) (a:=⟨b,j,none⟩) e];exact h.2.2 j⟩
theorem Pz.row {w:World} {b g:Nat} {s:ByteArray} {k:Int} (h:Pz w b s k) (hne:b≠g) (cs:Array Value):Pz (w.setRow g cs) b s k:=Bx.row h hne cs
theorem But.row {b g:Nat} {w w1:World} (h:But b w w1) (hg:w.heap.size≤g) (cs:Array Value):But b w (w1.setRow g cs) :=
 ⟨h.os,h.tape,h.output,by rw [size_setRow];exact h.size,fun k hk hn=>by rw [setRow_other w1 g k cs (by omega)];exact h.block k hk hn⟩
theorem results_c {P:Program} {fn:Func} {a t:Nat} (hr:fn.results=#[.cell a t]) {tmps:Array Value} {p:Addr} {w:World} {v:Value} (hp:tmps.getD a undef=.pointer (some p))
 (h:(loadVar t p).run P w=.ok v w):(results fn tmps).run P w=.ok v w:=by
 simp only [Array.getD_eq_getD_getElem?] at hp
 simp [results,hr,hp,asAddr,h]
namespace po_
theorem date_J (s:ByteArray) (k b:Nat) (w:World) (hs:s.size≤1000000) (hk:k≤s.size) (hp:Pz w b s k) (t:List UInt8) (v:Int) (n:Nat) (hc:rst s k=74 :: t) (h:ptNum (rst s (k+1))=some (v,n)) (hn:k+1+n≤s.size) :
 Calls Tryz.prog 290 #[.pointer (some ⟨b,0,none⟩)] w fun e w'=>e=.returned (.agg #[.int .i64 1,.int .i64 v,.int .i64 0,.int .i64 0,.int .i64 0,.int .i64 7200])∧Pz w' b s ((k+1+n:Nat):Int)∧But b w w':=by
 have hz:k<s.size:=by
  have:=congrArg List.length hc
  rw [List.length_drop,len_byt,List.length_cons] at this
  omega
 have C0:=hide (fun w hp=>skip_yes s k b 74 t w hs hk hp hc)
 have C1:=hide (fun w hp=>number_yes s (k+1) b v n w hs (by omega) hp h)
 have hbl:b<w.heap.size:=hp.1
 have hR:=hide (show Ro ((w.alloc (.cells zA6 81)).alloc (.cells zA6t 81)) w.heap.size zA6 81 from (Ro.new w zA6 81).alloc _)
 have hD:=hide (show Ro ((w.alloc (.cells zA6 81)).alloc (.cells zA6t 81)) (w.heap.size+1) zA6t 81 by have:=Ro.new (w.alloc (.cells zA6 81)) zA6t 81;simpa using this)
 have hB:=hide (show But b w ((w.alloc (.cells zA6 81)).alloc (.cells zA6t 81)) from ((But.refl b w).alloc _).alloc _)
 have P:=hide (show Pz ((w.alloc (.cells zA6 81)).alloc (.cells zA6t 81)) b s k from (hp.below (bl_new _ _)).below (bl_new _ _))
 clear hp
 clear hc h
 go_enter Tryz.func290,Tryz.ntmps290
 go_wp2_with (refine wpList_store_row rfl 81 _ _ rfl _ _ rfl rfl _ _ (heap_alloc_last _ _) (by kernel_rfl) rfl (by simp [Value.oneCell']) ?_;rw [World.setRow_alloc_new])
 generalize (w.alloc (.cells zA6 81)).alloc (.cells zA6t 81)=v0 at *
 go_wp2_with fail
 refine (C0.out _ P.out).mono ?_
 rintro e v1 ⟨rfl,p1,h1⟩
 replace hR:=hide (hR.out.but h1 (by omega))
 replace hD:=hide (hD.out.but h1 (by omega))
 replace hB:=hide (hB.out.trans h1)
 clear h1
 replace P:=hide (p1.cast (show _=((k+1:Nat):Int) by omega))
 clear p1
 go_wp2_with fail
 refine (C1.out _ P.out).mono ?_
 rintro e v2 ⟨rfl,p1,h1⟩
 replace hR:=hide (hR.out.but h1 (by omega))
 replace hD:=hide (hD.out.but h1 (by omega))
 replace hB:=hide (hB.out.trans h1)
 clear h1
 replace P:=hide (p1.cast (show _=((k+1+n:Nat):Int) by omega))
 clear p1
 obtain ⟨p0,q0⟩:=ro_cf hD.out 0 _ rfl
 obtain ⟨p1,q1⟩:=ro_cf hD.out 1 _ rfl
 go_upto_region 11 with fail
 clear p0 q0 p1 q1
 replace hD:=hide (show Ro (v2.setCell ⟨w.heap.size+1,0,none⟩ (.int .i64 1)) (w.heap.size+1) #[.int .i64 1,.int .i64 0,.int .i64 0,.int .i64 0,.int .i64 0,.int .i64 7200] 81 from ro_set hD.out 0 (.int .i64 1))
 replace hR:=hide (show Ro (v2.setCell ⟨w.heap.size+1,0,none⟩ (.int .i64 1)) (w.heap.size) _ _ from ro_set_ne hR.out (show w.heap.size+1≠w.heap.size by omega) 0 (.int .i64 1))
 replace P:=hide (show Pz (v2.setCell ⟨w.heap.size+1,0,none⟩ (.int .i64 1)) b s _ from P.out.set_ne 0 (show w.heap.size+1≠b by omega) (.int .i64 1))
 replace hB:=hide (show But b w (v2.setCell ⟨w.heap.size+1,0,none⟩ (.int .i64 1)) from hB.out.setNew (show w.heap.size≤w.heap.size+1 by omega) (.int .i64 1))
 generalize v2.setCell ⟨w.heap.size+1,0,none⟩ (.int .i64 1)=v3 at *
 replace hD:=hide (show Ro (v3.setCell ⟨w.heap.size+1,1,none⟩ (.int .i64 v)) (w.heap.size+1) #[.int .i64 1,.int .i64 v,.int .i64 0,.int .i64 0,.int .i64 0,.int .i64 7200] 81 from ro_set hD.out 1 (.int .i64 v))
 replace hR:=hide (show Ro (v3.setCell ⟨w.heap.size+1,1,none⟩ (.int .i64 v)) (w.heap.size) _ _ from ro_set_ne hR.out (show w.heap.size+1≠w.heap.size by omega) 1 (.int .i64 v))
 replace P:=hide (show Pz (v3.setCell ⟨w.heap.size+1,1,none⟩ (.int .i64 v)) b s _ from P.out.set_ne 1 (show w.heap.size+1≠b by omega) (.int .i64 v))
 replace hB:=hide (show But b w (v3.setCell ⟨w.heap.size+1,1,none⟩ (.int .i64 v)) from hB.out.setNew (show w.heap.size≤w.heap.size+1 by omega) (.int .i64 v))
 generalize v3.setCell ⟨w.heap.size+1,1,none⟩ (.int .i64 v)=v4 at *
 have G:Gr Tryz.prog 81 6 #[.int .i64 1,.int .i64 v,.int .i64 0,.int .i64 0,.int .i64 0,.int .i64 7200]:=⟨by kernel_rfl,rfl,by simp [Value.oneCell']⟩
 go_wp2_with (first | (refine wpList_store_row rfl 81 _ _ rfl _ _ rfl rfl _ _ hR.out G.1 rfl G.2.2 ?_) | (refine load_row_g (by rfl) 81 _ rfl _ rfl _ _ _ hD.out Tryz.underlying81 rfl G.1 ?_))
 have hl:=((ro_row hR.out #[.int .i64 1,.int .i64 v,.int .i64 0,.int .i64 0,.int .i64 0,.int .i64 7200]).load 81 _ Tryz.underlying81 rfl G.1).2
 exact bodyPost_ret (results_c Tryz.results290 rfl hl) rfl ⟨rfl,P.out.row (by omega) _,hB.out.row (by omega) _⟩
theorem date_J1 (s:ByteArray) (k b:Nat) (w:World) (hs:s.size≤1000000) (hk:k≤s.size) (hp:Pz w b s k) (t:List UInt8) (hc:rst s k=74 :: t) (h:ptNum (rst s (k+1))=none) :
 Calls Tryz.prog 290 #[.pointer (some ⟨b,0,none⟩)] w fun e w'=>∃ q:Int,e=fail q∧But b w w':=by
 have hz:k<s.size:=by
  have:=congrArg List.length hc
  rw [List.length_drop,len_byt,List.length_cons] at this
  omega
 have C0:=hide (fun w hp=>skip_yes s k b 74 t w hs hk hp hc)
 have C1:=hide (fun w hp=>number_no s (k+1) b w hs (by omega) hp h)
 have hbl:b<w.heap.size:=hp.1
 have hR:=hide (show Ro ((w.alloc (.cells zA6 81)).alloc (.cells zA6t 81)) w.heap.size zA6 81 from (Ro.new w zA6 81).alloc _)
 have hD:=hide (show Ro ((w.alloc (.cells zA6 81)).alloc (.cells zA6t 81)) (w.heap.size+1) zA6t 81 by have:=Ro.new (w.alloc (.cells zA6 81)) zA6t 81;simpa using this)
 have hB:=hide (show But b w ((w.alloc (.cells zA6 81)).alloc (.cells zA6t 81)) from ((But.refl b w).alloc _).alloc _)
 have P:=hide (show Pz ((w.alloc (.cells zA6 81)).alloc (.cells zA6t 81)) b s k from (hp.below (bl_new _ _)).below (bl_new _ _))
 clear hp
 clear hc h
 go_enter Tryz.func290,Tryz.ntmps290
 go_wp2_with (refine wpList_store_row rfl 81 _ _ rfl _ _ rfl rfl _ _ (heap_alloc_last _ _) (by kernel_rfl) rfl (by simp [Value.oneCell']) ?_;rw [World.setRow_alloc_new])
 generalize (w.alloc (.cells zA6 81)).alloc (.cells zA6t 81)=v0 at *
 go_wp2_with fail
 refine (C0.out _ P.out).mono ?_
 rintro e v1 ⟨rfl,p1,h1⟩
 replace hR:=hide (hR.out.but h1 (by omega))
 replace hD:=hide (hD.out.but h1 (by omega))
 replace hB:=hide (hB.out.trans h1)
 clear h1
 replace P:=hide (p1.cast (show _=((k+1:Nat):Int) by omega))
 clear p1
 go_wp2_with fail
 refine (C1.out _ P.out).mono ?_
 rintro e v ⟨rfl,h1⟩
 unfold fail
 go_wp2
 exact ⟨rfl,_,rfl,hB.out.next h1⟩
theorem date_Z (s:ByteArray) (k b:Nat) (w:World) (hs:s.size≤1000000) (hk:k≤s.size) (hp:Pz w b s k) (v:Int) (n:Nat) (hc:(rst s k).head?≠some 74) (hd:(rst s k).head?≠some 77) (h:ptNum (rst s k)=some (v,n)) (hn:k+n≤s.size) :
 Calls Tryz.prog 290 #[.pointer (some ⟨b,0,none⟩)] w fun e w'=>e=.returned (.agg #[.int .i64 2,.int .i64 v,.int .i64 0,.int .i64 0,.int .i64 0,.int .i64 7200])∧Pz w' b s ((k+n:Nat):Int)∧But b w w':=by
 skip
 have C0:=hide (fun w hp=>skip_no s k b 74 w hs hk hp hc)
 have C1:=hide (fun w hp=>skip_no s k b 77 w hs hk hp hd)
 have C2:=hide (fun w hp=>number_yes s k b v n w hs hk hp h)
 have hbl:b<w.heap.size:=hp.1
 have hR:=hide (show Ro ((w.alloc (.cells zA6 81)).alloc (.cells zA6t 81)) w.heap.size zA6 81 from (Ro.new w zA6 81).alloc _)
 have hD:=hide (show Ro ((w.alloc (.cells zA6 81)).alloc (.cells zA6t 81)) (w.heap.size+1) zA6t 81 by have:=Ro.new (w.alloc (.cells zA6 81)) zA6t 81;simpa using this)
 have hB:=hide (show But b w ((w.alloc (.cells zA6 81)).alloc (.cells zA6t 81)) from ((But.refl b w).alloc _).alloc _)
 have P:=hide (show Pz ((w.alloc (.cells zA6 81)).alloc (.cells zA6t 81)) b s k from (hp.below (bl_new _ _)).below (bl_new _ _))
 clear hp
 clear hc hd h
 go_enter Tryz.func290,Tryz.ntmps290
 go_wp2_with (refine wpList_store_row rfl 81 _ _ rfl _ _ rfl rfl _ _ (heap_alloc_last _ _) (by kernel_rfl) rfl (by simp [Value.oneCell']) ?_;rw [World.setRow_alloc_new])
 generalize (w.alloc (.cells zA6 81)).alloc (.cells zA6t 81)=v0 at *
 go_wp2_with fail
 refine (C0.out _ P.out).mono ?_
 rintro e v1 ⟨rfl,h1⟩
 replace P:=hide (P.out.below h1)
 replace hR:=hide (hR.out.below h1)
 replace hD:=hide (hD.out.below h1)
 replace hB:=hide (hB.out.next h1)
 clear h1
 go_wp2_with fail
 refine (C1.out _ P.out).mono ?_
 rintro e v2 ⟨rfl,h1⟩
 replace P:=hide (P.out.below h1)
 replace hR:=hide (hR.out.below h1)
 replace hD:=hide (hD.out.below h1)
 replace hB:=hide (hB.out.next h1)
 clear h1
 go_wp2_with fail
 refine (C2.out _ P.out).mono ?_
 rintro e v3 ⟨rfl,p1,h1⟩
 replace hR:=hide (hR.out.but h1 (by omega))
 replace hD:=hide (hD.out.but h1 (by omega))
 replace hB:=hide (hB.out.trans h1)
 clear h1
 replace P:=hide (p1.cast (show _=((k+n:Nat):Int) by omega))
 clear p1
 obtain ⟨p0,q0⟩:=ro_cf hD.out 0 _ rfl
 obtain ⟨p1,q1⟩:=ro_cf hD.out 1 _ rfl
 go_upto_region 11 with fail
 clear p0 q0 p1 q1
 replace hD:=hide (show Ro (v3.setCell ⟨w.heap.size+1,0,none⟩ (.int .i64 2)) (w.heap.size+1) #[.int .i64 2,.int .i64 0,.int .i64 0,.int .i64 0,.int .i64 0,.int .i64 7200] 81 from ro_set hD.out 0 (.int .i64 2))
 replace hR:=hide (show Ro (v3.setCell ⟨w.heap.size+1,0,none⟩ (.int .i64 2)) (w.heap.size) _ _ from ro_set_ne hR.out (show w.heap.size+1≠w.heap.size by omega) 0 (.int .i64 2))
 replace P:=hide (show Pz (v3.setCell ⟨w.heap.size+1,0,none⟩ (.int .i64 2)) b s _ from P.out.set_ne 0 (show w.heap.size+1≠b by omega) (.int .i64 2))
 replace hB:=hide (show But b w (v3.setCell ⟨w.heap.size+1,0,none⟩ (.int .i64 2)) from hB.out.setNew (show w.heap.size≤w.heap.size+1 by omega) (.int .i64 2))
 generalize v3.setCell ⟨w.heap.size+1,0,none⟩ (.int .i64 2)=v4 at *
 replace hD:=hide (show Ro (v4.setCell ⟨w.heap.size+1,1,none⟩ (.int .i64 v)) (w.heap.size+1) #[.int .i64 2,.int .i64 v,.int .i64 0,.int .i64 0,.int .i64 0,.int .i64 7200] 81 from ro_set hD.out 1 (.int .i64 v))
 replace hR:=hide (show Ro (v4.setCell ⟨w.heap.size+1,1,none⟩ (.int .i64 v)) (w.heap.size) _ _ from ro_set_ne hR.out (show w.heap.size+1≠w.heap.size by omega) 1 (.int .i64 v))
 replace P:=hide (show Pz (v4.setCell ⟨w.heap.size+1,1,none⟩ (.int .i64 v)) b s _ from P.out.set_ne 1 (show w.heap.size+1≠b by omega) (.int .i64 v))
 replace hB:=hide (show But b w (v4.setCell ⟨w.heap.size+1,1,none⟩ (.int .i64 v)) from hB.out.setNew (show w.heap.size≤w.heap.size+1 by omega) (.int .i64 v))
 generalize v4.setCell ⟨w.heap.size+1,1,none⟩ (.int .i64 v)=v5 at *
 have G:Gr Tryz.prog 81 6 #[.int .i64 2,.int .i64 v,.int .i64 0,.int .i64 0,.int .i64 0,.int .i64 7200]:=⟨by kernel_rfl,rfl,by simp [Value.oneCell']⟩
 go_wp2_with (first | (refine wpList_store_row rfl 81 _ _ rfl _ _ rfl rfl _ _ hR.out G.1 rfl G.2.2 ?_) | (refine load_row_g (by rfl) 81 _ rfl _ rfl _ _ _ hD.out Tryz.underlying81 rfl G.1 ?_))
 have hl:=((ro_row hR.out #[.int .i64 2,.int .i64 v,.int .i64 0,.int .i64 0,.int .i64 0,.int .i64 7200]).load 81 _ Tryz.underlying81 rfl G.1).2
 exact bodyPost_ret (results_c Tryz.results290 rfl hl) rfl ⟨rfl,P.out.row (by omega) _,hB.out.row (by omega) _⟩
theorem date_Z1 (s:ByteArray) (k b:Nat) (w:World) (hs:s.size≤1000000) (hk:k≤s.size) (hp:Pz w b s k) (hc:(rst s k).head?≠some 74) (hd:(rst s k).head?≠some 77) (h:ptNum (rst s k)=none) :
 Calls Tryz.prog 290 #[.pointer (some ⟨b,0,none⟩)] w fun e w'=>∃ q:Int,e=fail q∧But b w w':=by
 skip
 have C0:=hide (fun w hp=>skip_no s k b 74 w hs hk hp hc)
 have C1:=hide (fun w hp=>skip_no s k b 77 w hs hk hp hd)
 have C2:=hide (fun w hp=>number_no s k b w hs hk hp h)
 have hbl:b<w.heap.size:=hp.1
 have hR:=hide (show Ro ((w.alloc (.cells zA6 81)).alloc (.cells zA6t 81)) w.heap.size zA6 81 from (Ro.new w zA6 81).alloc _)
 have hD:=hide (show Ro ((w.alloc (.cells zA6 81)).alloc (.cells zA6t 81)) (w.heap.size+1) zA6t 81 by have:=Ro.new (w.alloc (.cells zA6 81)) zA6t 81;simpa using this)
 have hB:=hide (show But b w ((w.alloc (.cells zA6 81)).alloc (.cells zA6t 81)) from ((But.refl b w).alloc _).alloc _)
 have P:=hide (show Pz ((w.alloc (.cells zA6 81)).alloc (.cells zA6t 81)) b s k from (hp.below (bl_new _ _)).below (bl_new _ _))
 clear hp
 clear hc hd h
 go_enter Tryz.func290,Tryz.ntmps290
 go_wp2_with (refine wpList_store_row rfl 81 _ _ rfl _ _ rfl rfl _ _ (heap_alloc_last _ _) (by kernel_rfl) rfl (by simp [Value.oneCell']) ?_;rw [World.setRow_alloc_new])
 generalize (w.alloc (.cells zA6 81)).alloc (.cells zA6t 81)=v0 at *
 go_wp2_with fail
 refine (C0.out _ P.out).mono ?_
 rintro e v1 ⟨rfl,h1⟩
 replace P:=hide (P.out.below h1)
 replace hR:=hide (hR.out.below h1)
 replace hD:=hide (hD.out.below h1)
 replace hB:=hide (hB.out.next h1)
 clear h1
 go_wp2_with fail
 refine (C1.out _ P.out).mono ?_
 rintro e v2 ⟨rfl,h1⟩
 replace P:=hide (P.out.below h1)
 replace hR:=hide (hR.out.below h1)
 replace hD:=hide (hD.out.below h1)
 replace hB:=hide (hB.out.next h1)
 clear h1
 go_wp2_with fail
 refine (C2.out _ P.out).mono ?_
 rintro e v ⟨rfl,h1⟩
 unfold fail
 go_wp2
 exact ⟨rfl,_,rfl,hB.out.next h1⟩
theorem date_M (s:ByteArray) (k b:Nat) (w:World) (hs:s.size≤1000000) (hk:k≤s.size) (hp:Pz w b s k) (t:List UInt8) (hc:(rst s k).head?≠some 74) (hd:rst s k=77 :: t) (m:Int) (i:Nat) (h1:ptNum (rst s (k+1))=some (m,i)) (n1:k+1+i≤s.size) (t1:List UInt8) (h2:rst s (k+1+i)=46 :: t1) (n2:k+1+i+1≤s.size) (y:Int) (j:Nat) (h3:ptNum (rst s (k+1+i+1))=some (y,j)) (n3:k+1+i+1+j≤s.size) (t2:List UInt8) (h4:rst s (k+1+i+1+j)=46 :: t2) (n4:k+1+i+1+j+1≤s.size) (x:Int) (n:Nat) (h5:ptNum (rst s (k+1+i+1+j+1))=some (x,n)) (n5:k+1+i+1+j+1+n≤s.size) :
 Calls Tryz.prog 290 #[.pointer (some ⟨b,0,none⟩)] w fun e w'=>e=.returned (.agg #[.int .i64 3,.int .i64 0,.int .i64 m,.int .i64 y,.int .i64 x,.int .i64 7200])∧Pz w' b s ((k+1+i+1+j+1+n:Nat):Int)∧But b w w':=by
 have hz:k<s.size:=by
  have:=congrArg List.length hd
  rw [List.length_drop,len_byt,List.length_cons] at this
  omega
 have C0:=hide (fun w hp=>skip_no s k b 74 w hs hk hp hc)
 have C1:=hide (fun w hp=>skip_yes s k b 77 t w hs hk hp hd)
 have C2:=hide (fun w hp=>number_yes s (k+1) b m i w hs (by omega) hp h1)
 have C3:=hide (fun w hp=>expect_yes s (k+1+i) b 46 t1 w hs (by omega) hp h2)
 have C4:=hide (fun w hp=>number_yes s (k+1+i+1) b y j w hs (by omega) hp h3)
 have C5:=hide (fun w hp=>expect_yes s (k+1+i+1+j) b 46 t2 w hs (by omega) hp h4)
 have C6:=hide (fun w hp=>number_yes s (k+1+i+1+j+1) b x n w hs (by omega) hp h5)
 have hbl:b<w.heap.size:=hp.1
 have hR:=hide (show Ro ((w.alloc (.cells zA6 81)).alloc (.cells zA6t 81)) w.heap.size zA6 81 from (Ro.new w zA6 81).alloc _)
 have hD:=hide (show Ro ((w.alloc (.cells zA6 81)).alloc (.cells zA6t 81)) (w.heap.size+1) zA6t 81 by have:=Ro.new (w.alloc (.cells zA6 81)) zA6t 81;simpa using this)
 have hB:=hide (show But b w ((w.alloc (.cells zA6 81)).alloc (.cells zA6t 81)) from ((But.refl b w).alloc _).alloc _)
 have P:=hide (show Pz ((w.alloc (.cells zA6 81)).alloc (.cells zA6t 81)) b s k from (hp.below (bl_new _ _)).below (bl_new _ _))
 clear hp
 clear hc hd h1 h2 h3 h4 h5
 go_enter Tryz.func290,Tryz.ntmps290
 go_wp2_with (refine wpList_store_row rfl 81 _ _ rfl _ _ rfl rfl _ _ (heap_alloc_last _ _) (by kernel_rfl) rfl (by simp [Value.oneCell']) ?_;rw [World.setRow_alloc_new])
 generalize (w.alloc (.cells zA6 81)).alloc (.cells zA6t 81)=v0 at *
 go_wp2_with fail
 refine (C0.out _ P.out).mono ?_
 rintro e v1 ⟨rfl,h1⟩
 replace P:=hide (P.out.below h1)
 replace hR:=hide (hR.out.below h1)
 replace hD:=hide (hD.out.below h1)
 replace hB:=hide (hB.out.next h1)
 clear h1
 go_wp2_with fail
 refine (C1.out _ P.out).mono ?_
 rintro e v2 ⟨rfl,p1,h1⟩
 replace hR:=hide (hR.out.but h1 (by omega))
 replace hD:=hide (hD.out.but h1 (by omega))
 replace hB:=hide (hB.out.trans h1)
 clear h1
 replace P:=hide (p1.cast (show _=((k+1:Nat):Int) by omega))
 clear p1
 go_wp2_with fail
 refine (C2.out _ P.out).mono ?_
 rintro e v3 ⟨rfl,p1,h1⟩
 replace hR:=hide (hR.out.but h1 (by omega))
 replace hD:=hide (hD.out.but h1 (by omega))
 replace hB:=hide (hB.out.trans h1)
 clear h1
 replace P:=hide (p1.cast (show _=((k+1+i:Nat):Int) by omega))
 clear p1
 obtain ⟨p0,q0⟩:=ro_cf hD.out 0 _ rfl
 obtain ⟨p2,q2⟩:=ro_cf hD.out 2 _ rfl
 go_upto_region 7 with fail
 clear p0 q0 p2 q2
 replace hD:=hide (show Ro (v3.setCell ⟨w.heap.size+1,0,none⟩ (.int .i64 3)) (w.heap.size+1) #[.int .i64 3,.int .i64 0,.int .i64 0,.int .i64 0,.int .i64 0,.int .i64 7200] 81 from ro_set hD.out 0 (.int .i64 3))
 replace hR:=hide (show Ro (v3.setCell ⟨w.heap.size+1,0,none⟩ (.int .i64 3)) (w.heap.size) _ _ from ro_set_ne hR.out (show w.heap.size+1≠w.heap.size by omega) 0 (.int .i64 3))
 replace P:=hide (show Pz (v3.setCell ⟨w.heap.size+1,0,none⟩ (.int .i64 3)) b s _ from P.out.set_ne 0 (show w.heap.size+1≠b by omega) (.int .i64 3))
 replace hB:=hide (show But b w (v3.setCell ⟨w.heap.size+1,0,none⟩ (.int .i64 3)) from hB.out.setNew (show w.heap.size≤w.heap.size+1 by omega) (.int .i64 3))
 generalize v3.setCell ⟨w.heap.size+1,0,none⟩ (.int .i64 3)=v4 at *
 replace hD:=hide (show Ro (v4.setCell ⟨w.heap.size+1,2,none⟩ (.int .i64 m)) (w.heap.size+1) #[.int .i64 3,.int .i64 0,.int .i64 m,.int .i64 0,.int .i64 0,.int .i64 7200] 81 from ro_set hD.out 2 (.int .i64 m))
 replace hR:=hide (show Ro (v4.setCell ⟨w.heap.size+1,2,none⟩ (.int .i64 m)) (w.heap.size) _ _ from ro_set_ne hR.out (show w.heap.size+1≠w.heap.size by omega) 2 (.int .i64 m))
 replace P:=hide (show Pz (v4.setCell ⟨w.heap.size+1,2,none⟩ (.int .i64 m)) b s _ from P.out.set_ne 2 (show w.heap.size+1≠b by omega) (.int .i64 m))
 replace hB:=hide (show But b w (v4.setCell ⟨w.heap.size+1,2,none⟩ (.int .i64 m)) from hB.out.setNew (show w.heap.size≤w.heap.size+1 by omega) (.int .i64 m))
 generalize v4.setCell ⟨w.heap.size+1,2,none⟩ (.int .i64 m)=v5 at *
 go_wp2_with fail
 refine (C3.out _ P.out).mono ?_
 rintro e v6 ⟨rfl,p1,h1⟩
 replace hR:=hide (hR.out.but h1 (by omega))
 replace hD:=hide (hD.out.but h1 (by omega))
 replace hB:=hide (hB.out.trans h1)
 clear h1
 replace P:=hide (p1.cast (show _=((k+1+i+1:Nat):Int) by omega))
 clear p1
 go_wp2_with fail
 refine (C4.out _ P.out).mono ?_
 rintro e v7 ⟨rfl,p1,h1⟩
 replace hR:=hide (hR.out.but h1 (by omega))
 replace hD:=hide (hD.out.but h1 (by omega))
 replace hB:=hide (hB.out.trans h1)
 clear h1
 replace P:=hide (p1.cast (show _=((k+1+i+1+j:Nat):Int) by omega))
 clear p1
 obtain ⟨p3,q3⟩:=ro_cf hD.out 3 _ rfl
 go_upto_region 9 with fail
 clear p3 q3
 replace hD:=hide (show Ro (v7.setCell ⟨w.heap.size+1,3,none⟩ (.int .i64 y)) (w.heap.size+1) #[.int .i64 3,.int .i64 0,.int .i64 m,.int .i64 y,.int .i64 0,.int .i64 7200] 81 from ro_set hD.out 3 (.int .i64 y))
 replace hR:=hide (show Ro (v7.setCell ⟨w.heap.size+1,3,none⟩ (.int .i64 y)) (w.heap.size) _ _ from ro_set_ne hR.out (show w.heap.size+1≠w.heap.size by omega) 3 (.int .i64 y))
 replace P:=hide (show Pz (v7.setCell ⟨w.heap.size+1,3,none⟩ (.int .i64 y)) b s _ from P.out.set_ne 3 (show w.heap.size+1≠b by omega) (.int .i64 y))
 replace hB:=hide (show But b w (v7.setCell ⟨w.heap.size+1,3,none⟩ (.int .i64 y)) from hB.out.setNew (show w.heap.size≤w.heap.size+1 by omega) (.int .i64 y))
 generalize v7.setCell ⟨w.heap.size+1,3,none⟩ (.int .i64 y)=v8 at *
 go_wp2_with fail
 refine (C5.out _ P.out).mono ?_
 rintro e v9 ⟨rfl,p1,h1⟩
 replace hR:=hide (hR.out.but h1 (by omega))
 replace hD:=hide (hD.out.but h1 (by omega))
 replace hB:=hide (hB.out.trans h1)
 clear h1
 replace P:=hide (p1.cast (show _=((k+1+i+1+j+1:Nat):Int) by omega))
 clear p1
 go_wp2_with fail
 refine (C6.out _ P.out).mono ?_
 rintro e v10 ⟨rfl,p1,h1⟩
 replace hR:=hide (hR.out.but h1 (by omega))
 replace hD:=hide (hD.out.but h1 (by omega))
 replace hB:=hide (hB.out.trans h1)
 clear h1
 replace P:=hide (p1.cast (show _=((k+1+i+1+j+1+n:Nat):Int) by omega))
 clear p1
 obtain ⟨p4,q4⟩:=ro_cf hD.out 4 _ rfl
 go_upto_region 11 with fail
 clear p4 q4
 replace hD:=hide (show Ro (v10.setCell ⟨w.heap.size+1,4,none⟩ (.int .i64 x)) (w.heap.size+1) #[.int .i64 3,.int .i64 0,.int .i64 m,.int .i64 y,.int .i64 x,.int .i64 7200] 81 from ro_set hD.out 4 (.int .i64 x))
 replace hR:=hide (show Ro (v10.setCell ⟨w.heap.size+1,4,none⟩ (.int .i64 x)) (w.heap.size) _ _ from ro_set_ne hR.out (show w.heap.size+1≠w.heap.size by omega) 4 (.int .i64 x))
 replace P:=hide (show Pz (v10.setCell ⟨w.heap.size+1,4,none⟩ (.int .i64 x)) b s _ from P.out.set_ne 4 (show w.heap.size+1≠b by omega) (.int .i64 x))
 replace hB:=hide (show But b w (v10.setCell ⟨w.heap.size+1,4,none⟩ (.int .i64 x)) from hB.out.setNew (show w.heap.size≤w.heap.size+1 by omega) (.int .i64 x))
 generalize v10.setCell ⟨w.heap.size+1,4,none⟩ (.int .i64 x)=v11 at *
 have G:Gr Tryz.prog 81 6 #[.int .i64 3,.int .i64 0,.int .i64 m,.int .i64 y,.int .i64 x,.int .i64 7200]:=⟨by kernel_rfl,rfl,by simp [Value.oneCell']⟩
 go_wp2_with (first | (refine wpList_store_row rfl 81 _ _ rfl _ _ rfl rfl _ _ hR.out G.1 rfl G.2.2 ?_) | (refine load_row_g (by rfl) 81 _ rfl _ rfl _ _ _ hD.out Tryz.underlying81 rfl G.1 ?_))
 have hl:=((ro_row hR.out #[.int .i64 3,.int .i64 0,.int .i64 m,.int .i64 y,.int .i64 x,.int .i64 7200]).load 81 _ Tryz.underlying81 rfl G.1).2
 exact bodyPost_ret (results_c Tryz.results290 rfl hl) rfl ⟨rfl,P.out.row (by omega) _,hB.out.row (by omega) _⟩
theorem date_M1 (s:ByteArray) (k b:Nat) (w:World) (hs:s.size≤1000000) (hk:k≤s.size) (hp:Pz w b s k) (t:List UInt8) (hc:(rst s k).head?≠some 74) (hd:rst s k=77 :: t) (h1:ptNum (rst s (k+1))=none) :
 Calls Tryz.prog 290 #[.pointer (some ⟨b,0,none⟩)] w fun e w'=>∃ q:Int,e=fail q∧But b w w':=by
 have hz:k<s.size:=by
  have:=congrArg List.length hd
  rw [List.length_drop,len_byt,List.length_cons] at this
  omega
 have C0:=hide (fun w hp=>skip_no s k b 74 w hs hk hp hc)
 have C1:=hide (fun w hp=>skip_yes s k b 77 t w hs hk hp hd)
 have C2:=hide (fun w hp=>number_no s (k+1) b w hs (by omega) hp h1)
 have hbl:b<w.heap.size:=hp.1
 have hR:=hide (show Ro ((w.alloc (.cells zA6 81)).alloc (.cells zA6t 81)) w.heap.size zA6 81 from (Ro.new w zA6 81).alloc _)
 have hD:=hide (show Ro ((w.alloc (.cells zA6 81)).alloc (.cells zA6t 81)) (w.heap.size+1) zA6t 81 by have:=Ro.new (w.alloc (.cells zA6 81)) zA6t 81;simpa using this)
 have hB:=hide (show But b w ((w.alloc (.cells zA6 81)).alloc (.cells zA6t 81)) from ((But.refl b w).alloc _).alloc _)
 have P:=hide (show Pz ((w.alloc (.cells zA6 81)).alloc (.cells zA6t 81)) b s k from (hp.below (bl_new _ _)).below (bl_new _ _))
 clear hp
 clear hc hd h1
 go_enter Tryz.func290,Tryz.ntmps290
 go_wp2_with (refine wpList_store_row rfl 81 _ _ rfl _ _ rfl rfl _ _ (heap_alloc_last _ _) (by kernel_rfl) rfl (by simp [Value.oneCell']) ?_;rw [World.setRow_alloc_new])
 generalize (w.alloc (.cells zA6 81)).alloc (.cells zA6t 81)=v0 at *
 go_wp2_with fail
 refine (C0.out _ P.out).mono ?_
 rintro e v1 ⟨rfl,h1⟩
 replace P:=hide (P.out.below h1)
 replace hR:=hide (hR.out.below h1)
 replace hD:=hide (hD.out.below h1)
 replace hB:=hide (hB.out.next h1)
 clear h1
 go_wp2_with fail
 refine (C1.out _ P.out).mono ?_
 rintro e v2 ⟨rfl,p1,h1⟩
 replace hR:=hide (hR.out.but h1 (by omega))
 replace hD:=hide (hD.out.but h1 (by omega))
 replace hB:=hide (hB.out.trans h1)
 clear h1
 replace P:=hide (p1.cast (show _=((k+1:Nat):Int) by omega))
 clear p1
 go_wp2_with fail
 refine (C2.out _ P.out).mono ?_
 rintro e v ⟨rfl,h1⟩
 unfold fail
 go_wp2
 exact ⟨rfl,_,rfl,hB.out.next h1⟩
theorem date_M2 (s:ByteArray) (k b:Nat) (w:World) (hs:s.size≤1000000) (hk:k≤s.size) (hp:Pz w b s k) (t:List UInt8) (hc:(rst s k).head?≠some 74) (hd:rst s k=77 :: t) (m:Int) (i:Nat) (h1:ptNum (rst s (k+1))=some (m,i)) (n1:k+1+i≤s.size) (h2:(rst s (k+1+i)).head?≠some 46) :
 Calls Tryz.prog 290 #[.pointer (some ⟨b,0,none⟩)] w fun e w'=>∃ q:Int,e=fail q∧But b w w':=by
 have hz:k<s.size:=by
  have:=congrArg List.length hd
  rw [List.length_drop,len_byt,List.length_cons] at this
  omega
 have C0:=hide (fun w hp=>skip_no s k b 74 w hs hk hp hc)
 have C1:=hide (fun w hp=>skip_yes s k b 77 t w hs hk hp hd)
 have C2:=hide (fun w hp=>number_yes s (k+1) b m i w hs (by omega) hp h1)
 have C3:=hide (fun w hp=>expect_no s (k+1+i) b 46 w hs (by omega) hp h2)
 have hbl:b<w.heap.size:=hp.1
 have hR:=hide (show Ro ((w.alloc (.cells zA6 81)).alloc (.cells zA6t 81)) w.heap.size zA6 81 from (Ro.new w zA6 81).alloc _)
 have hD:=hide (show Ro ((w.alloc (.cells zA6 81)).alloc (.cells zA6t 81)) (w.heap.size+1) zA6t 81 by have:=Ro.new (w.alloc (.cells zA6 81)) zA6t 81;simpa using this)
 have hB:=hide (show But b w ((w.alloc (.cells zA6 81)).alloc (.cells zA6t 81)) from ((But.refl b w).alloc _).alloc _)
 have P:=hide (show Pz ((w.alloc (.cells zA6 81)).alloc (.cells zA6t 81)) b s k from (hp.below (bl_new _ _)).below (bl_new _ _))
 clear hp
 clear hc hd h1 h2
 go_enter Tryz.func290,Tryz.ntmps290
 go_wp2_with (refine wpList_store_row rfl 81 _ _ rfl _ _ rfl rfl _ _ (heap_alloc_last _ _) (by kernel_rfl) rfl (by simp [Value.oneCell']) ?_;rw [World.setRow_alloc_new])
 generalize (w.alloc (.cells zA6 81)).alloc (.cells zA6t 81)=v0 at *
 go_wp2_with fail
 refine (C0.out _ P.out).mono ?_
 rintro e v1 ⟨rfl,h1⟩
 replace P:=hide (P.out.below h1)
 replace hR:=hide (hR.out.below h1)
 replace hD:=hide (hD.out.below h1)
 replace hB:=hide (hB.out.next h1)
 clear h1
 go_wp2_with fail
 refine (C1.out _ P.out).mono ?_
 rintro e v2 ⟨rfl,p1,h1⟩
 replace hR:=hide (hR.out.but h1 (by omega))
 replace hD:=hide (hD.out.but h1 (by omega))
 replace hB:=hide (hB.out.trans h1)
 clear h1
 replace P:=hide (p1.cast (show _=((k+1:Nat):Int) by omega))
 clear p1
 go_wp2_with fail
 refine (C2.out _ P.out).mono ?_
 rintro e v3 ⟨rfl,p1,h1⟩
 replace hR:=hide (hR.out.but h1 (by omega))
 replace hD:=hide (hD.out.but h1 (by omega))
 replace hB:=hide (hB.out.trans h1)
 clear h1
 replace P:=hide (p1.cast (show _=((k+1+i:Nat):Int) by omega))
 clear p1
 obtain ⟨p0,q0⟩:=ro_cf hD.out 0 _ rfl
 obtain ⟨p2,q2⟩:=ro_cf hD.out 2 _ rfl
 go_upto_region 7 with fail
 clear p0 q0 p2 q2
 replace hD:=hide (show Ro (v3.setCell ⟨w.heap.size+1,0,none⟩ (.int .i64 3)) (w.heap.size+1) #[.int .i64 3,.int .i64 0,.int .i64 0,.int .i64 0,.int .i64 0,.int .i64 7200] 81 from ro_set hD.out 0 (.int .i64 3))
 replace hR:=hide (show Ro (v3.setCell ⟨w.heap.size+1,0,none⟩ (.int .i64 3)) (w.heap.size) _ _ from ro_set_ne hR.out (show w.heap.size+1≠w.heap.size by omega) 0 (.int .i64 3))
 replace P:=hide (show Pz (v3.setCell ⟨w.heap.size+1,0,none⟩ (.int .i64 3)) b s _ from P.out.set_ne 0 (show w.heap.size+1≠b by omega) (.int .i64 3))
 replace hB:=hide (show But b w (v3.setCell ⟨w.heap.size+1,0,none⟩ (.int .i64 3)) from hB.out.setNew (show w.heap.size≤w.heap.size+1 by omega) (.int .i64 3))
 generalize v3.setCell ⟨w.heap.size+1,0,none⟩ (.int .i64 3)=v4 at *
 replace hD:=hide (show Ro (v4.setCell ⟨w.heap.size+1,2,none⟩ (.int .i64 m)) (w.heap.size+1) #[.int .i64 3,.int .i64 0,.int .i64 m,.int .i64 0,.int .i64 0,.int .i64 7200] 81 from ro_set hD.out 2 (.int .i64 m))
 replace hR:=hide (show Ro (v4.setCell ⟨w.heap.size+1,2,none⟩ (.int .i64 m)) (w.heap.size) _ _ from ro_set_ne hR.out (show w.heap.size+1≠w.heap.size by omega) 2 (.int .i64 m))
 replace P:=hide (show Pz (v4.setCell ⟨w.heap.size+1,2,none⟩ (.int .i64 m)) b s _ from P.out.set_ne 2 (show w.heap.size+1≠b by omega) (.int .i64 m))
 replace hB:=hide (show But b w (v4.setCell ⟨w.heap.size+1,2,none⟩ (.int .i64 m)) from hB.out.setNew (show w.heap.size≤w.heap.size+1 by omega) (.int .i64 m))
 generalize v4.setCell ⟨w.heap.size+1,2,none⟩ (.int .i64 m)=v5 at *
 go_wp2_with fail
 refine (C3.out _ P.out).mono ?_
 rintro e v ⟨rfl,h1⟩
 unfold fail
 go_wp2
 exact ⟨rfl,_,rfl,hB.out.next h1⟩
theorem date_M3 (s:ByteArray) (k b:Nat) (w:World) (hs:s.size≤1000000) (hk:k≤s.size) (hp:Pz w b s k) (t:List UInt8) (hc:(rst s k).head?≠some 74) (hd:rst s k=77 :: t) (m:Int) (i:Nat) (h1:ptNum (rst s (k+1))=some (m,i)) (n1:k+1+i≤s.size) (t1:List UInt8) (h2:rst s (k+1+i)=46 :: t1) (n2:k+1+i+1≤s.size) (h3:ptNum (rst s (k+1+i+1))=none) :
 Calls Tryz.prog 290 #[.pointer (some ⟨b,0,none⟩)] w fun e w'=>∃ q:Int,e=fail q∧But b w w':=by
 have hz:k<s.size:=by
  have:=congrArg List.length hd
  rw [List.length_drop,len_byt,List.length_cons] at this
  omega
 have C0:=hide (fun w hp=>skip_no s k b 74 w hs hk hp hc)
 have C1:=hide (fun w hp=>skip_yes s k b 77 t w hs hk hp hd)
 have C2:=hide (fun w hp=>number_yes s (k+1) b m i w hs (by omega) hp h1)
 have C3:=hide (fun w hp=>expect_yes s (k+1+i) b 46 t1 w hs (by omega) hp h2)
 have C4:=hide (fun w hp=>number_no s (k+1+i+1) b w hs (by omega) hp h3)
 have hbl:b<w.heap.size:=hp.1
 have hR:=hide (show Ro ((w.alloc (.cells zA6 81)).alloc (.cells zA6t 81)) w.heap.size zA6 81 from (Ro.new w zA6 81).alloc _)
 have hD:=hide (show Ro ((w.alloc (.cells zA6 81)).alloc (.cells zA6t 81)) (w.heap.size+1) zA6t 81 by have:=Ro.new (w.alloc (.cells zA6 81)) zA6t 81;simpa using this)
 have hB:=hide (show But b w ((w.alloc (.cells zA6 81)).alloc (.cells zA6t 81)) from ((But.refl b w).alloc _).alloc _)
 have P:=hide (show Pz ((w.alloc (.cells zA6 81)).alloc (.cells zA6t 81)) b s k from (hp.below (bl_new _ _)).below (bl_new _ _))
 clear hp
 clear hc hd h1 h2 h3
 go_enter Tryz.func290,Tryz.ntmps290
 go_wp2_with (refine wpList_store_row rfl 81 _ _ rfl _ _ rfl rfl _ _ (heap_alloc_last _ _) (by kernel_rfl) rfl (by simp [Value.oneCell']) ?_;rw [World.setRow_alloc_new])
 generalize (w.alloc (.cells zA6 81)).alloc (.cells zA6t 81)=v0 at *
 go_wp2_with fail
 refine (C0.out _ P.out).mono ?_
 rintro e v1 ⟨rfl,h1⟩
 replace P:=hide (P.out.below h1)
 replace hR:=hide (hR.out.below h1)
 replace hD:=hide (hD.out.below h1)
 replace hB:=hide (hB.out.next h1)
 clear h1
 go_wp2_with fail
 refine (C1.out _ P.out).mono ?_
 rintro e v2 ⟨rfl,p1,h1⟩
 replace hR:=hide (hR.out.but h1 (by omega))
 replace hD:=hide (hD.out.but h1 (by omega))
 replace hB:=hide (hB.out.trans h1)
 clear h1
 replace P:=hide (p1.cast (show _=((k+1:Nat):Int) by omega))
 clear p1
 go_wp2_with fail
 refine (C2.out _ P.out).mono ?_
 rintro e v3 ⟨rfl,p1,h1⟩
 replace hR:=hide (hR.out.but h1 (by omega))
 replace hD:=hide (hD.out.but h1 (by omega))
 replace hB:=hide (hB.out.trans h1)
 clear h1
 replace P:=hide (p1.cast (show _=((k+1+i:Nat):Int) by omega))
 clear p1
 obtain ⟨p0,q0⟩:=ro_cf hD.out 0 _ rfl
 obtain ⟨p2,q2⟩:=ro_cf hD.out 2 _ rfl
 go_upto_region 7 with fail
 clear p0 q0 p2 q2
 replace hD:=hide (show Ro (v3.setCell ⟨w.heap.size+1,0,none⟩ (.int .i64 3)) (w.heap.size+1) #[.int .i64 3,.int .i64 0,.int .i64 0,.int .i64 0,.int .i64 0,.int .i64 7200] 81 from ro_set hD.out 0 (.int .i64 3))
 replace hR:=hide (show Ro (v3.setCell ⟨w.heap.size+1,0,none⟩ (.int .i64 3)) (w.heap.size) _ _ from ro_set_ne hR.out (show w.heap.size+1≠w.heap.size by omega) 0 (.int .i64 3))
 replace P:=hide (show Pz (v3.setCell ⟨w.heap.size+1,0,none⟩ (.int .i64 3)) b s _ from P.out.set_ne 0 (show w.heap.size+1≠b by omega) (.int .i64 3))
 replace hB:=hide (show But b w (v3.setCell ⟨w.heap.size+1,0,none⟩ (.int .i64 3)) from hB.out.setNew (show w.heap.size≤w.heap.size+1 by omega) (.int .i64 3))
 generalize v3.setCell ⟨w.heap.size+1,0,none⟩ (.int .i64 3)=v4 at *
 replace hD:=hide (show Ro (v4.setCell ⟨w.heap.size+1,2,none⟩ (.int .i64 m)) (w.heap.size+1) #[.int .i64 3,.int .i64 0,.int .i64 m,.int .i64 0,.int .i64 0,.int .i64 7200] 81 from ro_set hD.out 2 (.int .i64 m))
 replace hR:=hide (show Ro (v4.setCell ⟨w.heap.size+1,2,none⟩ (.int .i64 m)) (w.heap.size) _ _ from ro_set_ne hR.out (show w.heap.size+1≠w.heap.size by omega) 2 (.int .i64 m))
 replace P:=hide (show Pz (v4.setCell ⟨w.heap.size+1,2,none⟩ (.int .i64 m)) b s _ from P.out.set_ne 2 (show w.heap.size+1≠b by omega) (.int .i64 m))
 replace hB:=hide (show But b w (v4.setCell ⟨w.heap.size+1,2,none⟩ (.int .i64 m)) from hB.out.setNew (show w.heap.size≤w.heap.size+1 by omega) (.int .i64 m))
 generalize v4.setCell ⟨w.heap.size+1,2,none⟩ (.int .i64 m)=v5 at *
 go_wp2_with fail
 refine (C3.out _ P.out).mono ?_
 rintro e v6 ⟨rfl,p1,h1⟩
 replace hR:=hide (hR.out.but h1 (by omega))
 replace hD:=hide (hD.out.but h1 (by omega))
 replace hB:=hide (hB.out.trans h1)
 clear h1
 replace P:=hide (p1.cast (show _=((k+1+i+1:Nat):Int) by omega))
 clear p1
 go_wp2_with fail
 refine (C4.out _ P.out).mono ?_
 rintro e v ⟨rfl,h1⟩
 unfold fail
 go_wp2
 exact ⟨rfl,_,rfl,hB.out.next h1⟩
theorem date_M4 (s:ByteArray) (k b:Nat) (w:World) (hs:s.size≤1000000) (hk:k≤s.size) (hp:Pz w b s k) (t:List UInt8) (hc:(rst s k).head?≠some 74) (hd:rst s k=77 :: t) (m:Int) (i:Nat) (h1:ptNum (rst s (k+1))=some (m,i)) (n1:k+1+i≤s.size) (t1:List UInt8) (h2:rst s (k+1+i)=46 :: t1) (n2:k+1+i+1≤s.size) (y:Int) (j:Nat) (h3:ptNum (rst s (k+1+i+1))=some (y,j)) (n3:k+1+i+1+j≤s.size) (h4:(rst s (k+1+i+1+j)).head?≠some 46) :
 Calls Tryz.prog 290 #[.pointer (some ⟨b,0,none⟩)] w fun e w'=>∃ q:Int,e=fail q∧But b w w':=by
 have hz:k<s.size:=by
  have:=congrArg List.length hd
  rw [List.length_drop,len_byt,List.length_cons] at this
  omega
 have C0:=hide (fun w hp=>skip_no s k b 74 w hs hk hp hc)
 have C1:=hide (fun w hp=>skip_yes s k b 77 t w hs hk hp hd)
 have C2:=hide (fun w hp=>number_yes s (k+1) b m i w hs (by omega) hp h1)
 have C3:=hide (fun w hp=>expect_yes s (k+1+i) b 46 t1 w hs (by omega) hp h2)
 have C4:=hide (fun w hp=>number_yes s (k+1+i+1) b y j w hs (by omega) hp h3)
 have C5:=hide (fun w hp=>expect_no s (k+1+i+1+j) b 46 w hs (by omega) hp h4)
 have hbl:b<w.heap.size:=hp.1
 have hR:=hide (show Ro ((w.alloc (.cells zA6 81)).alloc (.cells zA6t 81)) w.heap.size zA6 81 from (Ro.new w zA6 81).alloc _)
 have hD:=hide (show Ro ((w.alloc (.cells zA6 81)).alloc (.cells zA6t 81)) (w.heap.size+1) zA6t 81 by have:=Ro.new (w.alloc (.cells zA6 81)) zA6t 81;simpa using this)
 have hB:=hide (show But b w ((w.alloc (.cells zA6 81)).alloc (.cells zA6t 81)) from ((But.refl b w).alloc _).alloc _)
 have P:=hide (show Pz ((w.alloc (.cells zA6 81)).alloc (.cells zA6t 81)) b s k from (hp.below (bl_new _ _)).below (bl_new _ _))
 clear hp
 clear hc hd h1 h2 h3 h4
 go_enter Tryz.func290,Tryz.ntmps290
 go_wp2_with (refine wpList_store_row rfl 81 _ _ rfl _ _ rfl rfl _ _ (heap_alloc_last _ _) (by kernel_rfl) rfl (by simp [Value.oneCell']) ?_;rw [World.setRow_alloc_new])
 generalize (w.alloc (.cells zA6 81)).alloc (.cells zA6t 81)=v0 at *
 go_wp2_with fail
 refine (C0.out _ P.out).mono ?_
 rintro e v1 ⟨rfl,h1⟩
 replace P:=hide (P.out.below h1)
 replace hR:=hide (hR.out.below h1)
 replace hD:=hide (hD.out.below h1)
 replace hB:=hide (hB.out.next h1)
 clear h1
 go_wp2_with fail
 refine (C1.out _ P.out).mono ?_
 rintro e v2 ⟨rfl,p1,h1⟩
 replace hR:=hide (hR.out.but h1 (by omega))
 replace hD:=hide (hD.out.but h1 (by omega))
 replace hB:=hide (hB.out.trans h1)
 clear h1
 replace P:=hide (p1.cast (show _=((k+1:Nat):Int) by omega))
 clear p1
 go_wp2_with fail
 refine (C2.out _ P.out).mono ?_
 rintro e v3 ⟨rfl,p1,h1⟩
 replace hR:=hide (hR.out.but h1 (by omega))
 replace hD:=hide (hD.out.but h1 (by omega))
 replace hB:=hide (hB.out.trans h1)
 clear h1
 replace P:=hide (p1.cast (show _=((k+1+i:Nat):Int) by omega))
 clear p1
 obtain ⟨p0,q0⟩:=ro_cf hD.out 0 _ rfl
 obtain ⟨p2,q2⟩:=ro_cf hD.out 2 _ rfl
 go_upto_region 7 with fail
 clear p0 q0 p2 q2
 replace hD:=hide (show Ro (v3.setCell ⟨w.heap.size+1,0,none⟩ (.int .i64 3)) (w.heap.size+1) #[.int .i64 3,.int .i64 0,.int .i64 0,.int .i64 0,.int .i64 0,.int .i64 7200] 81 from ro_set hD.out 0 (.int .i64 3))
 replace hR:=hide (show Ro (v3.setCell ⟨w.heap.size+1,0,none⟩ (.int .i64 3)) (w.heap.size) _ _ from ro_set_ne hR.out (show w.heap.size+1≠w.heap.size by omega) 0 (.int .i64 3))
 replace P:=hide (show Pz (v3.setCell ⟨w.heap.size+1,0,none⟩ (.int .i64 3)) b s _ from P.out.set_ne 0 (show w.heap.size+1≠b by omega) (.int .i64 3))
 replace hB:=hide (show But b w (v3.setCell ⟨w.heap.size+1,0,none⟩ (.int .i64 3)) from hB.out.setNew (show w.heap.size≤w.heap.size+1 by omega) (.int .i64 3))
 generalize v3.setCell ⟨w.heap.size+1,0,none⟩ (.int .i64 3)=v4 at *
 replace hD:=hide (show Ro (v4.setCell ⟨w.heap.size+1,2,none⟩ (.int .i64 m)) (w.heap.size+1) #[.int .i64 3,.int .i64 0,.int .i64 m,.int .i64 0,.int .i64 0,.int .i64 7200] 81 from ro_set hD.out 2 (.int .i64 m))
 replace hR:=hide (show Ro (v4.setCell ⟨w.heap.size+1,2,none⟩ (.int .i64 m)) (w.heap.size) _ _ from ro_set_ne hR.out (show w.heap.size+1≠w.heap.size by omega) 2 (.int .i64 m))
 replace P:=hide (show Pz (v4.setCell ⟨w.heap.size+1,2,none⟩ (.int .i64 m)) b s _ from P.out.set_ne 2 (show w.heap.size+1≠b by omega) (.int .i64 m))
 replace hB:=hide (show But b w (v4.setCell ⟨w.heap.size+1,2,none⟩ (.int .i64 m)) from hB.out.setNew (show w.heap.size≤w.heap.size+1 by omega) (.int .i64 m))
 generalize v4.setCell ⟨w.heap.size+1,2,none⟩ (.int .i64 m)=v5 at *
 go_wp2_with fail
 refine (C3.out _ P.out).mono ?_
 rintro e v6 ⟨rfl,p1,h1⟩
 replace hR:=hide (hR.out.but h1 (by omega))
 replace hD:=hide (hD.out.but h1 (by omega))
 replace hB:=hide (hB.out.trans h1)
 clear h1
 replace P:=hide (p1.cast (show _=((k+1+i+1:Nat):Int) by omega))
 clear p1
 go_wp2_with fail
 refine (C4.out _ P.out).mono ?_
 rintro e v7 ⟨rfl,p1,h1⟩
 replace hR:=hide (hR.out.but h1 (by omega))
 replace hD:=hide (hD.out.but h1 (by omega))
 replace hB:=hide (hB.out.trans h1)
 clear h1
 replace P:=hide (p1.cast (show _=((k+1+i+1+j:Nat):Int) by omega))
 clear p1
 obtain ⟨p3,q3⟩:=ro_cf hD.out 3 _ rfl
 go_upto_region 9 with fail
 clear p3 q3
 replace hD:=hide (show Ro (v7.setCell ⟨w.heap.size+1,3,none⟩ (.int .i64 y)) (w.heap.size+1) #[.int .i64 3,.int .i64 0,.int .i64 m,.int .i64 y,.int .i64 0,.int .i64 7200] 81 from ro_set hD.out 3 (.int .i64 y))
 replace hR:=hide (show Ro (v7.setCell ⟨w.heap.size+1,3,none⟩ (.int .i64 y)) (w.heap.size) _ _ from ro_set_ne hR.out (show w.heap.size+1≠w.heap.size by omega) 3 (.int .i64 y))
 replace P:=hide (show Pz (v7.setCell ⟨w.heap.size+1,3,none⟩ (.int .i64 y)) b s _ from P.out.set_ne 3 (show w.heap.size+1≠b by omega) (.int .i64 y))
 replace hB:=hide (show But b w (v7.setCell ⟨w.heap.size+1,3,none⟩ (.int .i64 y)) from hB.out.setNew (show w.heap.size≤w.heap.size+1 by omega) (.int .i64 y))
 generalize v7.setCell ⟨w.heap.size+1,3,none⟩ (.int .i64 y)=v8 at *
 go_wp2_with fail
 refine (C5.out _ P.out).mono ?_
 rintro e v ⟨rfl,h1⟩
 unfold fail
 go_wp2
 exact ⟨rfl,_,rfl,hB.out.next h1⟩
theorem date_M5 (s:ByteArray) (k b:Nat) (w:World) (hs:s.size≤1000000) (hk:k≤s.size) (hp:Pz w b s k) (t:List UInt8) (hc:(rst s k).head?≠some 74) (hd:rst s k=77 :: t) (m:Int) (i:Nat) (h1:ptNum (rst s (k+1))=some (m,i)) (n1:k+1+i≤s.size) (t1:List UInt8) (h2:rst s (k+1+i)=46 :: t1) (n2:k+1+i+1≤s.size) (y:Int) (j:Nat) (h3:ptNum (rst s (k+1+i+1))=some (y,j)) (n3:k+1+i+1+j≤s.size) (t2:List UInt8) (h4:rst s (k+1+i+1+j)=46 :: t2) (n4:k+1+i+1+j+1≤s.size) (h5:ptNum (rst s (k+1+i+1+j+1))=none) :
 Calls Tryz.prog 290 #[.pointer (some ⟨b,0,none⟩)] w fun e w'=>∃ q:Int,e=fail q∧But b w w':=by
 have hz:k<s.size:=by
  have:=congrArg List.length hd
  rw [List.length_drop,len_byt,List.length_cons] at this
  omega
 have C0:=hide (fun w hp=>skip_no s k b 74 w hs hk hp hc)
 have C1:=hide (fun w hp=>skip_yes s k b 77 t w hs hk hp hd)
 have C2:=hide (fun w hp=>number_yes s (k+1) b m i w hs (by omega) hp h1)
 have C3:=hide (fun w hp=>expect_yes s (k+1+i) b 46 t1 w hs (by omega) hp h2)
 have C4:=hide (fun w hp=>number_yes s (k+1+i+1) b y j w hs (by omega) hp h3)
 have C5:=hide (fun w hp=>expect_yes s (k+1+i+1+j) b 46 t2 w hs (by omega) hp h4)
 have C6:=hide (fun w hp=>number_no s (k+1+i+1+j+1) b w hs (by omega) hp h5)
 have hbl:b<w.heap.size:=hp.1
 have hR:=hide (show Ro ((w.alloc (.cells zA6 81)).alloc (.cells zA6t 81)) w.heap.size zA6 81 from (Ro.new w zA6 81).alloc _)
 have hD:=hide (show Ro ((w.alloc (.cells zA6 81)).alloc (.cells zA6t 81)) (w.heap.size+1) zA6t 81 by have:=Ro.new (w.alloc (.cells zA6 81)) zA6t 81;simpa using this)
 have hB:=hide (show But b w ((w.alloc (.cells zA6 81)).alloc (.cells zA6t 81)) from ((But.refl b w).alloc _).alloc _)
 have P:=hide (show Pz ((w.alloc (.cells zA6 81)).alloc (.cells zA6t 81)) b s k from (hp.below (bl_new _ _)).below (bl_new _ _))
 clear hp
 clear hc hd h1 h2 h3 h4 h5
 go_enter Tryz.func290,Tryz.ntmps290
 go_wp2_with (refine wpList_store_row rfl 81 _ _ rfl _ _ rfl rfl _ _ (heap_alloc_last _ _) (by kernel_rfl) rfl (by simp [Value.oneCell']) ?_;rw [World.setRow_alloc_new])
 generalize (w.alloc (.cells zA6 81)).alloc (.cells zA6t 81)=v0 at *
 go_wp2_with fail
 refine (C0.out _ P.out).mono ?_
 rintro e v1 ⟨rfl,h1⟩
 replace P:=hide (P.out.below h1)
 replace hR:=hide (hR.out.below h1)
 replace hD:=hide (hD.out.below h1)
 replace hB:=hide (hB.out.next h1)
 clear h1
 go_wp2_with fail
 refine (C1.out _ P.out).mono ?_
 rintro e v2 ⟨rfl,p1,h1⟩
 replace hR:=hide (hR.out.but h1 (by omega))
 replace hD:=hide (hD.out.but h1 (by omega))
 replace hB:=hide (hB.out.trans h1)
 clear h1
 replace P:=hide (p1.cast (show _=((k+1:Nat):Int) by omega))
 clear p1
 go_wp2_with fail
 refine (C2.out _ P.out).mono ?_
 rintro e v3 ⟨rfl,p1,h1⟩
 replace hR:=hide (hR.out.but h1 (by omega))
 replace hD:=hide (hD.out.but h1 (by omega))
 replace hB:=hide (hB.out.trans h1)
 clear h1
 replace P:=hide (p1.cast (show _=((k+1+i:Nat):Int) by omega))
 clear p1
 obtain ⟨p0,q0⟩:=ro_cf hD.out 0 _ rfl
 obtain ⟨p2,q2⟩:=ro_cf hD.out 2 _ rfl
 go_upto_region 7 with fail
 clear p0 q0 p2 q2
 replace hD:=hide (show Ro (v3.setCell ⟨w.heap.size+1,0,none⟩ (.int .i64 3)) (w.heap.size+1) #[.int .i64 3,.int .i64 0,.int .i64 0,.int .i64 0,.int .i64 0,.int .i64 7200] 81 from ro_set hD.out 0 (.int .i64 3))
 replace hR:=hide (show Ro (v3.setCell ⟨w.heap.size+1,0,none⟩ (.int .i64 3)) (w.heap.size) _ _ from ro_set_ne hR.out (show w.heap.size+1≠w.heap.size by omega) 0 (.int .i64 3))
 replace P:=hide (show Pz (v3.setCell ⟨w.heap.size+1,0,none⟩ (.int .i64 3)) b s _ from P.out.set_ne 0 (show w.heap.size+1≠b by omega) (.int .i64 3))
 replace hB:=hide (show But b w (v3.setCell ⟨w.heap.size+1,0,none⟩ (.int .i64 3)) from hB.out.setNew (show w.heap.size≤w.heap.size+1 by omega) (.int .i64 3))
 generalize v3.setCell ⟨w.heap.size+1,0,none⟩ (.int .i64 3)=v4 at *
 replace hD:=hide (show Ro (v4.setCell ⟨w.heap.size+1,2,none⟩ (.int .i64 m)) (w.heap.size+1) #[.int .i64 3,.int .i64 0,.int .i64 m,.int .i64 0,.int .i64 0,.int .i64 7200] 81 from ro_set hD.out 2 (.int .i64 m))
 replace hR:=hide (show Ro (v4.setCell ⟨w.heap.size+1,2,none⟩ (.int .i64 m)) (w.heap.size) _ _ from ro_set_ne hR.out (show w.heap.size+1≠w.heap.size by omega) 2 (.int .i64 m))
 replace P:=hide (show Pz (v4.setCell ⟨w.heap.size+1,2,none⟩ (.int .i64 m)) b s _ from P.out.set_ne 2 (show w.heap.size+1≠b by omega) (.int .i64 m))
 replace hB:=hide (show But b w (v4.setCell ⟨w.heap.size+1,2,none⟩ (.int .i64 m)) from hB.out.setNew (show w.heap.size≤w.heap.size+1 by omega) (.int .i64 m))
 generalize v4.setCell ⟨w.heap.size+1,2,none⟩ (.int .i64 m)=v5 at *
 go_wp2_with fail
 refine (C3.out _ P.out).mono ?_
 rintro e v6 ⟨rfl,p1,h1⟩
 replace hR:=hide (hR.out.but h1 (by omega))
 replace hD:=hide (hD.out.but h1 (by omega))
 replace hB:=hide (hB.out.trans h1)
 clear h1
 replace P:=hide (p1.cast (show _=((k+1+i+1:Nat):Int) by omega))
 clear p1
 go_wp2_with fail
 refine (C4.out _ P.out).mono ?_
 rintro e v7 ⟨rfl,p1,h1⟩
 replace hR:=hide (hR.out.but h1 (by omega))
 replace hD:=hide (hD.out.but h1 (by omega))
 replace hB:=hide (hB.out.trans h1)
 clear h1
 replace P:=hide (p1.cast (show _=((k+1+i+1+j:Nat):Int) by omega))
 clear p1
 obtain ⟨p3,q3⟩:=ro_cf hD.out 3 _ rfl
 go_upto_region 9 with fail
 clear p3 q3
 replace hD:=hide (show Ro (v7.setCell ⟨w.heap.size+1,3,none⟩ (.int .i64 y)) (w.heap.size+1) #[.int .i64 3,.int .i64 0,.int .i64 m,.int .i64 y,.int .i64 0,.int .i64 7200] 81 from ro_set hD.out 3 (.int .i64 y))
 replace hR:=hide (show Ro (v7.setCell ⟨w.heap.size+1,3,none⟩ (.int .i64 y)) (w.heap.size) _ _ from ro_set_ne hR.out (show w.heap.size+1≠w.heap.size by omega) 3 (.int .i64 y))
 replace P:=hide (show Pz (v7.setCell ⟨w.heap.size+1,3,none⟩ (.int .i64 y)) b s _ from P.out.set_ne 3 (show w.heap.size+1≠b by omega) (.int .i64 y))
 replace hB:=hide (show But b w (v7.setCell ⟨w.heap.size+1,3,none⟩ (.int .i64 y)) from hB.out.setNew (show w.heap.size≤w.heap.size+1 by omega) (.int .i64 y))
 generalize v7.setCell ⟨w.heap.size+1,3,none⟩ (.int .i64 y)=v8 at *
 go_wp2_with fail
 refine (C5.out _ P.out).mono ?_
 rintro e v9 ⟨rfl,p1,h1⟩
 replace hR:=hide (hR.out.but h1 (by omega))
 replace hD:=hide (hD.out.but h1 (by omega))
 replace hB:=hide (hB.out.trans h1)
 clear h1
 replace P:=hide (p1.cast (show _=((k+1+i+1+j+1:Nat):Int) by omega))
 clear p1
 go_wp2_with fail
 refine (C6.out _ P.out).mono ?_
 rintro e v ⟨rfl,h1⟩
 unfold fail
 go_wp2
 exact ⟨rfl,_,rfl,hB.out.next h1⟩
end po_
def rdc (d:RD):Array Value:=#[.int .i64 d.1,.int .i64 d.2.1,.int .i64 d.2.2.1,.int .i64 d.2.2.2.1,.int .i64 d.2.2.2.2.1,.int .i64 d.2.2.2.2.2]
theorem u8_of {c d:UInt8} (h:(c.toNat:Int)=(d.toNat:Int)):c=d:=UInt8.toNat_inj.1 (by omega)
theorem rst_add (s:ByteArray) (k j:Nat):rst s (k+j)=(rst s k).drop j:=by rw [List.drop_drop]
theorem rst_len (s:ByteArray) (k:Nat):(rst s k).length=s.size - k:=by rw [List.length_drop,len_byt]
namespace po_
def DateOk (s:ByteArray) (k b:Nat) (w:World) (d:RD) (n:Nat):Prop :=
 (Calls Tryz.prog 290 #[.pointer (some ⟨b,0,none⟩)] w fun e w'=>e=.returned (.agg (rdc d))∧Pz w' b s ((k+n:Nat):Int)∧But b w w')∧k+n≤s.size
theorem date_ (s:ByteArray) (k b:Nat) (w:World) (hs:s.size≤1000000) (hk:k≤s.size) (hp:Pz w b s k) :
 match ptHead (rst s k) with
 | none=>Calls Tryz.prog 290 #[.pointer (some ⟨b,0,none⟩)] w fun e w'=>∃ q:Int,e=fail q∧But b w w'
 | some (h,n)=>DateOk s k b w (ptMk h 7200) n:=by
 have hl:=rst_len s k
 have A:=rst_add s k
 rcases hr:rst s k with _ | ⟨c,t⟩
 ·exact date_Z1 s k b w hs hk hp (by rw [hr];simp) (by rw [hr];simp) (by rw [hr];rfl)
 ·rw [hr] at hl A
  simp only [List.length_cons] at hl
  have A1:rst s (k+1)=t:=by rw [A];rfl
  have A2:∀ j,rst s (k+1+j)=t.drop j:=fun j=>by rw [rst_add,A1]
  simp only [ptHead]
  by_cases h74:(c.toNat:Int)=74
  ·have hc:c=74:=u8_of h74
   simp only [h74,if_true]
   subst hc
   rcases hn:ptNum t with _ | ⟨v,n⟩
   ·exact date_J1 s k b w hs hk hp t hr (by rw [A1];exact hn)
   ·have hb:=ptNum_some hn
    have hz:k+1+n≤s.size:=by omega
    have:=date_J s k b w hs hk hp t v n hr (by rw [A1];exact hn) hz
    exact ⟨by rw [show k+(1+n)=k+1+n by omega];exact this,by omega⟩
  ·have hc:(rst s k).head?≠some 74:=by rw [hr];intro e;apply h74;simp at e;rw [e];rfl
   simp only [h74,if_false]
   by_cases h77:(c.toNat:Int)=77
   ·have hd:c=77:=u8_of h77
    simp only [h77,if_true]
    subst hd
    have hx:∀ (j:Nat) (T:List UInt8),t.drop j=T→T≠[]→k+1+j<s.size:=by
     intro j T e ne
     have:=congrArg List.length e
     rw [List.length_drop] at this
     have:T.length≠0:=fun z=>ne (List.length_eq_zero_iff.1 z)
     omega
    simp only [ptNumP]
    rcases h1:ptNum t with _ | ⟨m,i⟩
    ·exact date_M1 s k b w hs hk hp t hc hr (by rw [A1];exact h1)
    have b1:=ptNum_some h1
    rcases h2:t.drop i with _ | ⟨c2,t2⟩
    ·simp only [h2]
     exact date_M2 s k b w hs hk hp t hc hr m i (by rw [A1];exact h1) (by omega) (by rw [A2,h2];simp)
    simp only [h2]
    have z2:=hx i _ h2 (by simp)
    by_cases h46:(c2.toNat:Int)=46
    rotate_left
    ·simp only [h46,if_false]
     exact date_M2 s k b w hs hk hp t hc hr m i (by rw [A1];exact h1) (by omega) (by rw [A2,h2];intro e;apply h46;simp at e;rw [e];rfl)
    have e46:c2=46:=u8_of h46
    subst e46
    simp only [h46,if_true]
    have A3:∀ j,rst s (k+1+i+1+j)=(t.drop (i+1)).drop j:=fun j=>by rw [show k+1+i+1+j=k+1+(i+1+j) by omega,A2,List.drop_drop]
    rcases h3:ptNum (t.drop (i+1)) with _ | ⟨y,j⟩
    ·exact date_M3 s k b w hs hk hp t hc hr m i (by rw [A1];exact h1) (by omega) t2 (by rw [A2,h2]) (by omega) (by have:=A3 0;simp only [Nat.add_zero,List.drop_zero] at this;rw [this];exact h3)
    have b3:=ptNum_some h3
    rw [List.length_drop] at b3
    have e3:ptNum (rst s (k+1+i+1))=some (y,j):=by have:=A3 0;simp only [Nat.add_zero,List.drop_zero] at this;rw [this];exact h3
    rcases h4:(t.drop (i+1)).drop j with _ | ⟨c4,t4⟩
    ·simp only [h4]
     exact date_M4 s k b w hs hk hp t hc hr m i (by rw [A1];exact h1) (by omega) t2 (by rw [A2,h2]) (by omega) y j e3 (by omega) (by rw [A3,h4];simp)
    simp only [h4]
    have z4:=hx (i+1+j) (c4 :: t4) (by rw [← List.drop_drop];exact h4) (by simp)
    by_cases h46':(c4.toNat:Int)=46
    rotate_left
    ·simp only [h46',if_false]
     exact date_M4 s k b w hs hk hp t hc hr m i (by rw [A1];exact h1) (by omega) t2 (by rw [A2,h2]) (by omega) y j e3 (by omega) (by rw [A3,h4];intro e;apply h46';simp at e;rw [e];rfl)
    have e46':c4=46:=u8_of h46'
    subst e46'
    simp only [h46',if_true]
    have A5:rst s (k+1+i+1+j+1)=t.drop (i+1+(j+1)):=by rw [show k+1+i+1+j+1=k+1+(i+1+(j+1)) by omega,A2]
    rcases h5:ptNum (t.drop (i+1+(j+1))) with _ | ⟨x,n⟩
    ·exact date_M5 s k b w hs hk hp t hc hr m i (by rw [A1];exact h1) (by omega) t2 (by rw [A2,h2]) (by omega) y j e3 (by omega) t4 (by rw [A3,h4]) (by omega) (by rw [A5];exact h5)
    have b5:=ptNum_some h5
    rw [List.length_drop] at b5
    have:=date_M s k b w hs hk hp t hc hr m i (by rw [A1];exact h1) (by omega) t2 (by rw [A2,h2]) (by omega) y j e3 (by omega) t4 (by rw [A3,h4]) (by omega) x n (by rw [A5];exact h5) (by omega)
    exact ⟨by rw [show k+(1+(i+1+(j+1))+n)=k+1+i+1+j+1+n by omega];exact this,by omega⟩
   ·have hd:(rst s k).head?≠some 77:=by rw [hr];intro e;apply h77;simp at e;rw [e];rfl
    simp only [h77,if_false]
    rcases hn:ptNum (c :: t) with _ | ⟨v,n⟩
    ·exact date_Z1 s k b w hs hk hp hc hd (by rw [hr];exact hn)
    ·have hb:=ptNum_some hn
     simp only [List.length_cons] at hb
     have:=date_Z s k b w hs hk hp v n hc hd (by rw [hr];exact hn) (by omega)
     exact ⟨this,by omega⟩
end po_
namespace po_
theorem dat_0 (s:ByteArray) (k b:Nat) (w:World) (hs:s.size≤1000000) (hk:k≤s.size) (hp:Pz w b s k) (hd:∀ w,Pz w b s k→Calls Tryz.prog 290 #[.pointer (some ⟨b,0,none⟩)] w fun e w'=>∃ q:Int,e=fail q∧But b w w') :
 Calls Tryz.prog 283 #[.pointer (some ⟨b,0,none⟩)] w fun e w'=>∃ q:Int,e=fail q∧But b w w':=by
 have D:=hide hd
 have hbl:b<w.heap.size:=hp.1
 have hR:=hide (Ro.new w zA6 81)
 have hB:=hide ((But.refl b w).alloc (.cells zA6 81))
 have P:=hide (hp.below (bl_new w (.cells zA6 81)))
 clear hp
 clear hd
 go_enter Tryz.func283,Tryz.ntmps283
 go_wp2_with fail
 generalize w.alloc (.cells zA6 81)=v0 at *
 refine (D.out _ P.out).mono ?_
 rintro e v ⟨q,rfl,h1⟩
 unfold fail
 go_wp2
 exact ⟨rfl,_,rfl,hB.out.trans h1⟩
theorem dat_n1 (s:ByteArray) (k b:Nat) (w:World) (hs:s.size≤1000000) (hk:k≤s.size) (hp:Pz w b s k) (a c d z f:Int) (n:Nat) (hn:k+n≤s.size) (hd:∀ w,Pz w b s k→Calls Tryz.prog 290 #[.pointer (some ⟨b,0,none⟩)] w fun e' w'=>e'=.returned (.agg #[.int .i64 a,.int .i64 c,.int .i64 d,.int .i64 z,.int .i64 f,.int .i64 7200])∧Pz w' b s ((k+n:Nat):Int)∧But b w w') (hv:∀ w,Calls Tryz.prog 292 #[.agg #[.int .i64 a,.int .i64 c,.int .i64 d,.int .i64 z,.int .i64 f,.int .i64 7200]] w fun e' w'=>e'=.returned (.bool true)∧Below w.heap.size w w') (h1:(rst s (k+n)).head?≠some 47) :
 Calls Tryz.prog 283 #[.pointer (some ⟨b,0,none⟩)] w fun e w'=>e=.returned (.agg #[.int .i64 a,.int .i64 c,.int .i64 d,.int .i64 z,.int .i64 f,.int .i64 7200])∧Pz w' b s ((k+n:Nat):Int)∧But b w w':=by
 have D:=hide hd
 have K:=hide (fun w hp=>skip_no s (k+n) b 47 w hs hn hp h1)
 clear h1
 have V:=hide hv
 have hbl:b<w.heap.size:=hp.1
 have hR:=hide (Ro.new w zA6 81)
 have hB:=hide ((But.refl b w).alloc (.cells zA6 81))
 have P:=hide (hp.below (bl_new w (.cells zA6 81)))
 clear hp
 clear hd hv
 go_enter Tryz.func283,Tryz.ntmps283
 go_wp2_with fail
 generalize w.alloc (.cells zA6 81)=v0 at *
 refine (D.out _ P.out).mono ?_
 rintro e v1 ⟨rfl,p1,h1⟩
 replace hR:=hide (hR.out.but h1 (by omega))
 replace hB:=hide (hB.out.trans h1)
 replace P:=hide p1
 clear h1 p1
 have hg:w.heap.size<v1.heap.size:=hR.out.lt
 have hD:=hide (Ro.new v1 #[.int .i64 a,.int .i64 c,.int .i64 d,.int .i64 z,.int .i64 f,.int .i64 7200] 81)
 replace hR:=hide (hR.out.alloc (.cells #[.int .i64 a,.int .i64 c,.int .i64 d,.int .i64 z,.int .i64 f,.int .i64 7200] 81))
 replace hB:=hide (hB.out.alloc (.cells #[.int .i64 a,.int .i64 c,.int .i64 d,.int .i64 z,.int .i64 f,.int .i64 7200] 81))
 replace P:=hide (P.out.below (bl_new v1 (.cells #[.int .i64 a,.int .i64 c,.int .i64 d,.int .i64 z,.int .i64 f,.int .i64 7200] 81)))
 go_wp2_with (refine wpList_store_row rfl 81 _ _ rfl _ _ rfl rfl _ _ (heap_alloc_last _ _) (by kernel_rfl) rfl (by simp [Value.oneCell']) ?_;rw [World.setRow_alloc_new])
 generalize v1.alloc (.cells #[.int .i64 a,.int .i64 c,.int .i64 d,.int .i64 z,.int .i64 f,.int .i64 7200] 81)=v9 at *
 generalize v1.heap.size=g1 at *
 refine (K.out _ P.out).mono ?_
 rintro e v2 ⟨rfl,h1⟩
 replace P:=hide (P.out.below h1)
 replace hR:=hide (hR.out.below h1)
 replace hD:=hide (hD.out.below h1)
 replace hB:=hide (hB.out.next h1)
 clear h1
 have G:Gr Tryz.prog 81 6 #[.int .i64 a,.int .i64 c,.int .i64 d,.int .i64 z,.int .i64 f,.int .i64 7200]:=⟨by kernel_rfl,rfl,by simp [Value.oneCell']⟩
 go_wp2_with (refine load_row_g (by rfl) 81 _ rfl _ rfl _ _ _ hD.out Tryz.underlying81 rfl G.1 ?_)
 refine (V.out _).mono ?_
 rintro e v3 ⟨rfl,h1⟩
 replace P:=hide (P.out.below h1)
 replace hR:=hide (hR.out.below h1)
 replace hD:=hide (hD.out.below h1)
 replace hB:=hide (hB.out.next h1)
 clear h1
 go_wp2_with fail
 refine (require_yes b _).mono ?_
 rintro e v ⟨rfl,rfl⟩
 go_wp2_with (first | (refine wpList_store_row rfl 81 _ _ rfl _ _ rfl rfl _ _ hR.out G.1 rfl G.2.2 ?_) | (refine load_row_g (by rfl) 81 _ rfl _ rfl _ _ _ hD.out Tryz.underlying81 rfl G.1 ?_))
 have hl:=((ro_row hR.out #[.int .i64 a,.int .i64 c,.int .i64 d,.int .i64 z,.int .i64 f,.int .i64 7200]).load 81 _ Tryz.underlying81 rfl G.1).2
 exact bodyPost_ret (results_c Tryz.results283 rfl hl) rfl ⟨rfl,P.out.row (by omega) _,hB.out.row (by omega) _⟩
theorem dat_n0 (s:ByteArray) (k b:Nat) (w:World) (hs:s.size≤1000000) (hk:k≤s.size) (hp:Pz w b s k) (a c d z f:Int) (n:Nat) (hn:k+n≤s.size) (hd:∀ w,Pz w b s k→Calls Tryz.prog 290 #[.pointer (some ⟨b,0,none⟩)] w fun e' w'=>e'=.returned (.agg #[.int .i64 a,.int .i64 c,.int .i64 d,.int .i64 z,.int .i64 f,.int .i64 7200])∧Pz w' b s ((k+n:Nat):Int)∧But b w w') (hv:∀ w,Calls Tryz.prog 292 #[.agg #[.int .i64 a,.int .i64 c,.int .i64 d,.int .i64 z,.int .i64 f,.int .i64 7200]] w fun e' w'=>e'=.returned (.bool false)∧Below w.heap.size w w') (h1:(rst s (k+n)).head?≠some 47) :
 Calls Tryz.prog 283 #[.pointer (some ⟨b,0,none⟩)] w fun e w'=>∃ q:Int,e=fail q∧But b w w':=by
 have D:=hide hd
 have K:=hide (fun w hp=>skip_no s (k+n) b 47 w hs hn hp h1)
 clear h1
 have V:=hide hv
 have hbl:b<w.heap.size:=hp.1
 have hR:=hide (Ro.new w zA6 81)
 have hB:=hide ((But.refl b w).alloc (.cells zA6 81))
 have P:=hide (hp.below (bl_new w (.cells zA6 81)))
 clear hp
 clear hd hv
 go_enter Tryz.func283,Tryz.ntmps283
 go_wp2_with fail
 generalize w.alloc (.cells zA6 81)=v0 at *
 refine (D.out _ P.out).mono ?_
 rintro e v1 ⟨rfl,p1,h1⟩
 replace hR:=hide (hR.out.but h1 (by omega))
 replace hB:=hide (hB.out.trans h1)
 replace P:=hide p1
 clear h1 p1
 have hg:w.heap.size<v1.heap.size:=hR.out.lt
 have hD:=hide (Ro.new v1 #[.int .i64 a,.int .i64 c,.int .i64 d,.int .i64 z,.int .i64 f,.int .i64 7200] 81)
 replace hR:=hide (hR.out.alloc (.cells #[.int .i64 a,.int .i64 c,.int .i64 d,.int .i64 z,.int .i64 f,.int .i64 7200] 81))
 replace hB:=hide (hB.out.alloc (.cells #[.int .i64 a,.int .i64 c,.int .i64 d,.int .i64 z,.int .i64 f,.int .i64 7200] 81))
 replace P:=hide (P.out.below (bl_new v1 (.cells #[.int .i64 a,.int .i64 c,.int .i64 d,.int .i64 z,.int .i64 f,.int .i64 7200] 81)))
 go_wp2_with (refine wpList_store_row rfl 81 _ _ rfl _ _ rfl rfl _ _ (heap_alloc_last _ _) (by kernel_rfl) rfl (by simp [Value.oneCell']) ?_;rw [World.setRow_alloc_new])
 generalize v1.alloc (.cells #[.int .i64 a,.int .i64 c,.int .i64 d,.int .i64 z,.int .i64 f,.int .i64 7200] 81)=v9 at *
 generalize v1.heap.size=g1 at *
 refine (K.out _ P.out).mono ?_
 rintro e v2 ⟨rfl,h1⟩
 replace P:=hide (P.out.below h1)
 replace hR:=hide (hR.out.below h1)
 replace hD:=hide (hD.out.below h1)
 replace hB:=hide (hB.out.next h1)
 clear h1
 have G:Gr Tryz.prog 81 6 #[.int .i64 a,.int .i64 c,.int .i64 d,.int .i64 z,.int .i64 f,.int .i64 7200]:=⟨by kernel_rfl,rfl,by simp [Value.oneCell']⟩
 go_wp2_with (refine load_row_g (by rfl) 81 _ rfl _ rfl _ _ _ hD.out Tryz.underlying81 rfl G.1 ?_)
 refine (V.out _).mono ?_
 rintro e v3 ⟨rfl,h1⟩
 replace P:=hide (P.out.below h1)
 replace hR:=hide (hR.out.below h1)
 replace hD:=hide (hD.out.below h1)
 replace hB:=hide (hB.out.next h1)
 clear h1
 go_wp2_with fail
 refine (require_no s ((k+n:Nat):Int) b _ P.out).mono ?_
 rintro e v ⟨rfl,rfl⟩
 unfold fail
 go_wp2
 exact ⟨rfl,_,rfl,hB.out⟩
theorem dat_f (s:ByteArray) (k b:Nat) (w:World) (hs:s.size≤1000000) (hk:k≤s.size) (hp:Pz w b s k) (a c d z f:Int) (n:Nat) (hn:k+n≤s.size) (hd:∀ w,Pz w b s k→Calls Tryz.prog 290 #[.pointer (some ⟨b,0,none⟩)] w fun e' w'=>e'=.returned (.agg #[.int .i64 a,.int .i64 c,.int .i64 d,.int .i64 z,.int .i64 f,.int .i64 7200])∧Pz w' b s ((k+n:Nat):Int)∧But b w w') (t:List UInt8) (h1:rst s (k+n)=47 :: t) (h2:hmsParse (rst s (k+n+1))=none) :
 Calls Tryz.prog 283 #[.pointer (some ⟨b,0,none⟩)] w fun e w'=>∃ q:Int,e=fail q∧But b w w':=by
 have D:=hide hd
 have K:=hide (fun w hp=>skip_yes s (k+n) b 47 t w hs hn hp h1)
 have hn1:k+n<s.size:=by
  have:=congrArg List.length h1
  rw [List.length_drop,len_byt,List.length_cons] at this
  omega
 clear h1
 have U:=hide (fun w hp=>duration_no s (k+n+1) b w hs (by omega) hp h2)
 clear h2
 have hbl:b<w.heap.size:=hp.1
 have hR:=hide (Ro.new w zA6 81)
 have hB:=hide ((But.refl b w).alloc (.cells zA6 81))
 have P:=hide (hp.below (bl_new w (.cells zA6 81)))
 clear hp
 clear hd
 go_enter Tryz.func283,Tryz.ntmps283
 go_wp2_with fail
 generalize w.alloc (.cells zA6 81)=v0 at *
 refine (D.out _ P.out).mono ?_
 rintro e v1 ⟨rfl,p1,h1⟩
 replace hR:=hide (hR.out.but h1 (by omega))
 replace hB:=hide (hB.out.trans h1)
 replace P:=hide p1
 clear h1 p1
 have hg:w.heap.size<v1.heap.size:=hR.out.lt
 have hD:=hide (Ro.new v1 #[.int .i64 a,.int .i64 c,.int .i64 d,.int .i64 z,.int .i64 f,.int .i64 7200] 81)
 replace hR:=hide (hR.out.alloc (.cells #[.int .i64 a,.int .i64 c,.int .i64 d,.int .i64 z,.int .i64 f,.int .i64 7200] 81))
 replace hB:=hide (hB.out.alloc (.cells #[.int .i64 a,.int .i64 c,.int .i64 d,.int .i64 z,.int .i64 f,.int .i64 7200] 81))
 replace P:=hide (P.out.below (bl_new v1 (.cells #[.int .i64 a,.int .i64 c,.int .i64 d,.int .i64 z,.int .i64 f,.int .i64 7200] 81)))
 go_wp2_with (refine wpList_store_row rfl 81 _ _ rfl _ _ rfl rfl _ _ (heap_alloc_last _ _) (by kernel_rfl) rfl (by simp [Value.oneCell']) ?_;rw [World.setRow_alloc_new])
 generalize v1.alloc (.cells #[.int .i64 a,.int .i64 c,.int .i64 d,.int .i64 z,.int .i64 f,.int .i64 7200] 81)=v9 at *
 generalize v1.heap.size=g1 at *
 refine (K.out _ P.out).mono ?_
 rintro e v2 ⟨rfl,p1,h1⟩
 replace P:=hide (p1.cast (show _=((k+n+1:Nat):Int) by omega))
 replace hR:=hide (hR.out.but h1 (by omega))
 replace hD:=hide (hD.out.but h1 (by omega))
 replace hB:=hide (hB.out.trans h1)
 clear h1 p1
 go_wp2_with fail
 refine (U.out _ P.out).mono ?_
 rintro e v ⟨rfl,h1⟩
 unfold fail
 go_wp2
 exact ⟨rfl,_,rfl,hB.out.next h1⟩
theorem dat_y1 (s:ByteArray) (k b:Nat) (w:World) (hs:s.size≤1000000) (hk:k≤s.size) (hp:Pz w b s k) (a c d z f:Int) (n:Nat) (hn:k+n≤s.size) (hd:∀ w,Pz w b s k→Calls Tryz.prog 290 #[.pointer (some ⟨b,0,none⟩)] w fun e' w'=>e'=.returned (.agg #[.int .i64 a,.int .i64 c,.int .i64 d,.int .i64 z,.int .i64 f,.int .i64 7200])∧Pz w' b s ((k+n:Nat):Int)∧But b w w') (t:List UInt8) (h1:rst s (k+n)=47 :: t) (v:Int) (m:Nat) (h2:hmsParse (rst s (k+n+1))=some (v,m)) (hm:k+n+1+m≤s.size) (hv:∀ w,Calls Tryz.prog 292 #[.agg #[.int .i64 a,.int .i64 c,.int .i64 d,.int .i64 z,.int .i64 f,.int .i64 v]] w fun e' w'=>e'=.returned (.bool true)∧Below w.heap.size w w') :
 Calls Tryz.prog 283 #[.pointer (some ⟨b,0,none⟩)] w fun e w'=>e=.returned (.agg #[.int .i64 a,.int .i64 c,.int .i64 d,.int .i64 z,.int .i64 f,.int .i64 v])∧Pz w' b s ((k+n+1+m:Nat):Int)∧But b w w':=by
 have D:=hide hd
 have K:=hide (fun w hp=>skip_yes s (k+n) b 47 t w hs hn hp h1)
 have hn1:k+n<s.size:=by
  have:=congrArg List.length h1
  rw [List.length_drop,len_byt,List.length_cons] at this
  omega
 clear h1
 have U:=hide (fun w hp=>duration_yes s (k+n+1) b v m w hs (by omega) hp h2)
 clear h2
 have V:=hide hv
 have hbl:b<w.heap.size:=hp.1
 have hR:=hide (Ro.new w zA6 81)
 have hB:=hide ((But.refl b w).alloc (.cells zA6 81))
 have P:=hide (hp.below (bl_new w (.cells zA6 81)))
 clear hp
 clear hd hv
 go_enter Tryz.func283,Tryz.ntmps283
 go_wp2_with fail
 generalize w.alloc (.cells zA6 81)=v0 at *
 refine (D.out _ P.out).mono ?_
 rintro e v1 ⟨rfl,p1,h1⟩
 replace hR:=hide (hR.out.but h1 (by omega))
 replace hB:=hide (hB.out.trans h1)
 replace P:=hide p1
 clear h1 p1
 have hg:w.heap.size<v1.heap.size:=hR.out.lt
 have hD:=hide (Ro.new v1 #[.int .i64 a,.int .i64 c,.int .i64 d,.int .i64 z,.int .i64 f,.int .i64 7200] 81)
 replace hR:=hide (hR.out.alloc (.cells #[.int .i64 a,.int .i64 c,.int .i64 d,.int .i64 z,.int .i64 f,.int .i64 7200] 81))
 replace hB:=hide (hB.out.alloc (.cells #[.int .i64 a,.int .i64 c,.int .i64 d,.int .i64 z,.int .i64 f,.int .i64 7200] 81))
 replace P:=hide (P.out.below (bl_new v1 (.cells #[.int .i64 a,.int .i64 c,.int .i64 d,.int .i64 z,.int .i64 f,.int .i64 7200] 81)))
 go_wp2_with (refine wpList_store_row rfl 81 _ _ rfl _ _ rfl rfl _ _ (heap_alloc_last _ _) (by kernel_rfl) rfl (by simp [Value.oneCell']) ?_;rw [World.setRow_alloc_new])
 generalize v1.alloc (.cells #[.int .i64 a,.int .i64 c,.int .i64 d,.int .i64 z,.int .i64 f,.int .i64 7200] 81)=v9 at *
 generalize v1.heap.size=g1 at *
 refine (K.out _ P.out).mono ?_
 rintro e v2 ⟨rfl,p1,h1⟩
 replace P:=hide (p1.cast (show _=((k+n+1:Nat):Int) by omega))
 replace hR:=hide (hR.out.but h1 (by omega))
 replace hD:=hide (hD.out.but h1 (by omega))
 replace hB:=hide (hB.out.trans h1)
 clear h1 p1
 go_wp2_with fail
 refine (U.out _ P.out).mono ?_
 rintro e v3 ⟨rfl,p1,h1⟩
 replace hR:=hide (hR.out.but h1 (by omega))
 replace hD:=hide (hD.out.but h1 (by omega))
 replace hB:=hide (hB.out.trans h1)
 clear h1
 replace P:=hide (p1.cast (show _=((k+n+1+m:Nat):Int) by omega))
 clear p1
 obtain ⟨p5,q5⟩:=ro_cf hD.out 5 _ rfl
 go_upto_region 4 with fail
 clear p5 q5
 replace hD:=hide (show Ro (v3.setCell ⟨g1,5,none⟩ (.int .i64 v)) (g1) #[.int .i64 a,.int .i64 c,.int .i64 d,.int .i64 z,.int .i64 f,.int .i64 v] 81 from ro_set hD.out 5 (.int .i64 v))
 replace hR:=hide (show Ro (v3.setCell ⟨g1,5,none⟩ (.int .i64 v)) (w.heap.size) _ _ from ro_set_ne hR.out (show g1≠w.heap.size by omega) 5 (.int .i64 v))
 replace P:=hide (show Pz (v3.setCell ⟨g1,5,none⟩ (.int .i64 v)) b s _ from P.out.set_ne 5 (show g1≠b by omega) (.int .i64 v))
 replace hB:=hide (show But b w (v3.setCell ⟨g1,5,none⟩ (.int .i64 v)) from hB.out.setNew (show w.heap.size≤g1 by omega) (.int .i64 v))
 generalize v3.setCell ⟨g1,5,none⟩ (.int .i64 v)=v4 at *
 have G:Gr Tryz.prog 81 6 #[.int .i64 a,.int .i64 c,.int .i64 d,.int .i64 z,.int .i64 f,.int .i64 v]:=⟨by kernel_rfl,rfl,by simp [Value.oneCell']⟩
 go_wp2_with (refine load_row_g (by rfl) 81 _ rfl _ rfl _ _ _ hD.out Tryz.underlying81 rfl G.1 ?_)
 refine (V.out _).mono ?_
 rintro e v5 ⟨rfl,h1⟩
 replace P:=hide (P.out.below h1)
 replace hR:=hide (hR.out.below h1)
 replace hD:=hide (hD.out.below h1)
 replace hB:=hide (hB.out.next h1)
 clear h1
 go_wp2_with fail
 refine (require_yes b _).mono ?_
 rintro e v ⟨rfl,rfl⟩
 go_wp2_with (first | (refine wpList_store_row rfl 81 _ _ rfl _ _ rfl rfl _ _ hR.out G.1 rfl G.2.2 ?_) | (refine load_row_g (by rfl) 81 _ rfl _ rfl _ _ _ hD.out Tryz.underlying81 rfl G.1 ?_))
 have hl:=((ro_row hR.out #[.int .i64 a,.int .i64 c,.int .i64 d,.int .i64 z,.int .i64 f,.int .i64 v]).load 81 _ Tryz.underlying81 rfl G.1).2
 exact bodyPost_ret (results_c Tryz.results283 rfl hl) rfl ⟨rfl,P.out.row (by omega) _,hB.out.row (by omega) _⟩
theorem dat_y0 (s:ByteArray) (k b:Nat) (w:World) (hs:s.size≤1000000) (hk:k≤s.size) (hp:Pz w b s k) (a c d z f:Int) (n:Nat) (hn:k+n≤s.size) (hd:∀ w,Pz w b s k→Calls Tryz.prog 290 #[.pointer (some ⟨b,0,none⟩)] w fun e' w'=>e'=.returned (.agg #[.int .i64 a,.int .i64 c,.int .i64 d,.int .i64 z,.int .i64 f,.int .i64 7200])∧Pz w' b s ((k+n:Nat):Int)∧But b w w') (t:List UInt8) (h1:rst s (k+n)=47 :: t) (v:Int) (m:Nat) (h2:hmsParse (rst s (k+n+1))=some (v,m)) (hm:k+n+1+m≤s.size) (hv:∀ w,Calls Tryz.prog 292 #[.agg #[.int .i64 a,.int .i64 c,.int .i64 d,.int .i64 z,.int .i64 f,.int .i64 v]] w fun e' w'=>e'=.returned (.bool false)∧Below w.heap.size w w') :
 Calls Tryz.prog 283 #[.pointer (some ⟨b,0,none⟩)] w fun e w'=>∃ q:Int,e=fail q∧But b w w':=by
 have D:=hide hd
 have K:=hide (fun w hp=>skip_yes s (k+n) b 47 t w hs hn hp h1)
 have hn1:k+n<s.size:=by
  have:=congrArg List.length h1
  rw [List.length_drop,len_byt,List.length_cons] at this
  omega
 clear h1
 have U:=hide (fun w hp=>duration_yes s (k+n+1) b v m w hs (by omega) hp h2)
 clear h2
 have V:=hide hv
 have hbl:b<w.heap.size:=hp.1
 have hR:=hide (Ro.new w zA6 81)
 have hB:=hide ((But.refl b w).alloc (.cells zA6 81))
 have P:=hide (hp.below (bl_new w (.cells zA6 81)))
 clear hp
 clear hd hv
 go_enter Tryz.func283,Tryz.ntmps283
 go_wp2_with fail
 generalize w.alloc (.cells zA6 81)=v0 at *
 refine (D.out _ P.out).mono ?_
 rintro e v1 ⟨rfl,p1,h1⟩
 replace hR:=hide (hR.out.but h1 (by omega))
 replace hB:=hide (hB.out.trans h1)
 replace P:=hide p1
 clear h1 p1
 have hg:w.heap.size<v1.heap.size:=hR.out.lt
 have hD:=hide (Ro.new v1 #[.int .i64 a,.int .i64 c,.int .i64 d,.int .i64 z,.int .i64 f,.int .i64 7200] 81)
 replace hR:=hide (hR.out.alloc (.cells #[.int .i64 a,.int .i64 c,.int .i64 d,.int .i64 z,.int .i64 f,.int .i64 7200] 81))
 replace hB:=hide (hB.out.alloc (.cells #[.int .i64 a,.int .i64 c,.int .i64 d,.int .i64 z,.int .i64 f,.int .i64 7200] 81))
 replace P:=hide (P.out.below (bl_new v1 (.cells #[.int .i64 a,.int .i64 c,.int .i64 d,.int .i64 z,.int .i64 f,.int .i64 7200] 81)))
 go_wp2_with (refine wpList_store_row rfl 81 _ _ rfl _ _ rfl rfl _ _ (heap_alloc_last _ _) (by kernel_rfl) rfl (by simp [Value.oneCell']) ?_;rw [World.setRow_alloc_new])
 generalize v1.alloc (.cells #[.int .i64 a,.int .i64 c,.int .i64 d,.int .i64 z,.int .i64 f,.int .i64 7200] 81)=v9 at *
 generalize v1.heap.size=g1 at *
 refine (K.out _ P.out).mono ?_
 rintro e v2 ⟨rfl,p1,h1⟩
 replace P:=hide (p1.cast (show _=((k+n+1:Nat):Int) by omega))
 replace hR:=hide (hR.out.but h1 (by omega))
 replace hD:=hide (hD.out.but h1 (by omega))
 replace hB:=hide (hB.out.trans h1)
 clear h1 p1
 go_wp2_with fail
 refine (U.out _ P.out).mono ?_
 rintro e v3 ⟨rfl,p1,h1⟩
 replace hR:=hide (hR.out.but h1 (by omega))
 replace hD:=hide (hD.out.but h1 (by omega))
 replace hB:=hide (hB.out.trans h1)
 clear h1
 replace P:=hide (p1.cast (show _=((k+n+1+m:Nat):Int) by omega))
 clear p1
 obtain ⟨p5,q5⟩:=ro_cf hD.out 5 _ rfl
 go_upto_region 4 with fail
 clear p5 q5
 replace hD:=hide (show Ro (v3.setCell ⟨g1,5,none⟩ (.int .i64 v)) (g1) #[.int .i64 a,.int .i64 c,.int .i64 d,.int .i64 z,.int .i64 f,.int .i64 v] 81 from ro_set hD.out 5 (.int .i64 v))
 replace hR:=hide (show Ro (v3.setCell ⟨g1,5,none⟩ (.int .i64 v)) (w.heap.size) _ _ from ro_set_ne hR.out (show g1≠w.heap.size by omega) 5 (.int .i64 v))
 replace P:=hide (show Pz (v3.setCell ⟨g1,5,none⟩ (.int .i64 v)) b s _ from P.out.set_ne 5 (show g1≠b by omega) (.int .i64 v))
 replace hB:=hide (show But b w (v3.setCell ⟨g1,5,none⟩ (.int .i64 v)) from hB.out.setNew (show w.heap.size≤g1 by omega) (.int .i64 v))
 generalize v3.setCell ⟨g1,5,none⟩ (.int .i64 v)=v4 at *
 have G:Gr Tryz.prog 81 6 #[.int .i64 a,.int .i64 c,.int .i64 d,.int .i64 z,.int .i64 f,.int .i64 v]:=⟨by kernel_rfl,rfl,by simp [Value.oneCell']⟩
 go_wp2_with (refine load_row_g (by rfl) 81 _ rfl _ rfl _ _ _ hD.out Tryz.underlying81 rfl G.1 ?_)
 refine (V.out _).mono ?_
 rintro e v5 ⟨rfl,h1⟩
 replace P:=hide (P.out.below h1)
 replace hR:=hide (hR.out.below h1)
 replace hD:=hide (hD.out.below h1)
 replace hB:=hide (hB.out.next h1)
 clear h1
 go_wp2_with fail
 refine (require_no s ((k+n+1+m:Nat):Int) b _ P.out).mono ?_
 rintro e v ⟨rfl,rfl⟩
 unfold fail
 go_wp2
 exact ⟨rfl,_,rfl,hB.out⟩
theorem head_kind {l:List UInt8} {h:Int × Int × Int × Int × Int} {n:Nat} (e:ptHead l=some (h,n)):(Lit.int .i64 h.1).wf=true:=by
 unfold ptHead at e
 split at e
 ·cases e
 ·split at e
  ·split at e
   ·cases e
   ·cases e;rfl
  ·split at e
   ·split at e
    ·cases e
    ·split at e
     ·cases e
     ·split at e
      ·cases e
      ·cases e;rfl
   ·split at e
    ·cases e
    ·cases e;rfl
theorem dat_ (s:ByteArray) (k b:Nat) (w:World) (hs:s.size≤1000000) (hk:k≤s.size) (hp:Pz w b s k) :
 match ptDay (rst s k) with
 | none=>Calls Tryz.prog 283 #[.pointer (some ⟨b,0,none⟩)] w fun e w'=>∃ q:Int,e=fail q∧But b w w'
 | some (d,n)=>Calls Tryz.prog 283 #[.pointer (some ⟨b,0,none⟩)] w fun e w'=>e=.returned (.agg (rdc d))∧Pz w' b s ((k+n:Nat):Int)∧But b w w':=by
 have D:=fun w hp=>date_ s k b w hs hk hp
 unfold ptDay
 rcases hh:ptHead (rst s k) with _ | ⟨⟨a,c,d,e,f⟩,n⟩
 ·simp only [hh] at D
  exact dat_0 s k b w hs hk hp D
 ·simp only [hh] at D
  have hn:=(D w hp).2
  replace D:=fun w hp=>(D w hp).1
  have V:=fun v w=>rd_.Valid_ a c d e f v w (head_kind hh)
  have A:=rst_add s (k+n)
  simp only [ptMk] at D
  dsimp only
  rw [← rst_add]
  rcases ht:rst s (k+n) with _ | ⟨x,t⟩
  ·dsimp only
   by_cases hr:RdOk a c d e f 7200
   ·rw [if_pos (show rdOk (ptMk (a,c,d,e,f) 7200) from hr)]
    exact dat_n1 s k b w hs hk hp a c d e f n hn D (fun w=>by have:=V 7200 w;rwa [decide_eq_true hr] at this) (by rw [ht];simp)
   ·rw [if_neg (show ¬ rdOk (ptMk (a,c,d,e,f) 7200) from hr)]
    exact dat_n0 s k b w hs hk hp a c d e f n hn D (fun w=>by have:=V 7200 w;rwa [decide_eq_false hr] at this) (by rw [ht];simp)
  ·have hl:=rst_len s (k+n)
   rw [ht,List.length_cons] at hl
   have A1:rst s (k+n+1)=t:=by rw [A,ht];rfl
   dsimp only
   by_cases h47:(x.toNat:Int)=47
   ·have hx:x=47:=u8_of h47
    subst hx
    simp only [h47,if_true]
    rcases h2:hmsParse t with _ | ⟨v,m⟩
    ·exact dat_f s k b w hs hk hp a c d e f n hn D t ht (by rw [A1];exact h2)
    ·have hb:=parse_prefix h2
     simp only []
     by_cases hr:RdOk a c d e f v
     ·rw [if_pos (show rdOk (ptMk (a,c,d,e,f) v) from hr)]
      have:=dat_y1 s k b w hs hk hp a c d e f n hn D t ht v m (by rw [A1];exact h2) (by omega) (fun w=>by have:=V v w;rwa [decide_eq_true hr] at this)
      rw [show k+n+1+m=k+(n+1+m) by omega] at this
      exact this
     ·rw [if_neg (show ¬ rdOk (ptMk (a,c,d,e,f) v) from hr)]
      exact dat_y0 s k b w hs hk hp a c d e f n hn D t ht v m (by rw [A1];exact h2) (by omega) (fun w=>by have:=V v w;rwa [decide_eq_false hr] at this)
   ·have hx:(rst s (k+n)).head?≠some 47:=by rw [ht];intro e;apply h47;simp at e;rw [e];rfl
    simp only [h47,if_false]
    by_cases hr:RdOk a c d e f 7200
    ·rw [if_pos (show rdOk (ptMk (a,c,d,e,f) 7200) from hr)]
     exact dat_n1 s k b w hs hk hp a c d e f n hn D (fun w=>by have:=V 7200 w;rwa [decide_eq_true hr] at this) hx
    ·rw [if_neg (show ¬ rdOk (ptMk (a,c,d,e,f) 7200) from hr)]
     exact dat_n0 s k b w hs hk hp a c d e f n hn D (fun w=>by have:=V 7200 w;rwa [decide_eq_false hr] at this) hx
end po_
structure But2 (b g:Nat) (w w':World):Prop where
 os:w'.os=w.os
 tape:w'.tape=w.tape
 output:w'.output=w.output
 size:w.heap.size≤w'.heap.size
 block:∀ k,k<w.heap.size→k≠b→k≠g→w'.heap[k]?=w.heap[k]?
theorem But2.refl (b g:Nat) (w:World):But2 b g w w:=⟨rfl,rfl,rfl,Nat.le_refl _,fun _ _ _ _=>rfl⟩
theorem But2.trans {b g:Nat} {w w1 w2:World} (h:But2 b g w w1) (k:But2 b g w1 w2):But2 b g w w2 :=
 ⟨k.os.trans h.os,k.tape.trans h.tape,k.output.trans h.output,Nat.le_trans h.size k.size,fun i hi hn hm=>(k.block i (Nat.lt_of_lt_of_le hi h.size) hn hm).trans (h.block i hi hn hm)⟩
theorem But2.of {b g:Nat} {w w1:World} (h:Below w.heap.size w w1):But2 b g w w1:=⟨h.os,h.tape,h.output,h.size,fun k hk _ _=>h.block k hk⟩
theorem But2.one {b g:Nat} {w w1:World} (h:But b w w1):But2 b g w w1:=⟨h.os,h.tape,h.output,h.size,fun k hk hn _=>h.block k hk hn⟩
theorem But2.two {b g:Nat} {w w1:World} (h:But g w w1):But2 b g w w1:=⟨h.os,h.tape,h.output,h.size,fun k hk _ hn=>h.block k hk hn⟩
theorem But2.next {b g:Nat} {w w1 w2:World} (h:But2 b g w w1) (k:Below w1.heap.size w1 w2):But2 b g w w2:=h.trans (.of k)
theorem But2.setNew {b g q o:Nat} {w w1:World} (h:But2 b g w w1) (hg:w.heap.size≤q) (v:Value):But2 b g w (w1.setCell ⟨q,o,none⟩ v) :=
 ⟨h.os,h.tape,h.output,by have:=h.size;simpa [World.setCell] using this,fun k hk hn hm=>(Below.heap_setCell w1 ⟨q,o,none⟩ v k (by show k≠q;omega)).trans (h.block k hk hn hm)⟩
theorem But2.below {b g B:Nat} {w w1:World} (h:But2 b g w w1) (hb:B≤b) (hg:B≤g) (hB:B≤w.heap.size):Below B w w1:=⟨h.os,h.tape,h.output,h.size,fun k hk=>h.block k (by omega) (by omega) (by omega)⟩
theorem Bx.but2 {b g q:Nat} {w w1:World} {vs:List Value} (h:Bx w q vs) (hb:But2 b g w w1) (h1:q≠b) (h2:q≠g):Bx w1 q vs:=by
 have e:=hb.block q h.1 h1 h2
 exact ⟨Nat.lt_of_lt_of_le h.1 hb.size,fun j v hj=>by rw [World.cell?_of_block (w:=w) (a:=⟨q,j,none⟩) e];exact h.2.1 j v hj,fun j=>by rw [World.frozen?_of_block (w:=w) (a:=⟨q,j,none⟩) e];exact h.2.2 j⟩
theorem Ro.but2 {b g q:Nat} {w w1:World} {vs:Array Value} {T:TypeId} (h:Ro w q vs T) (hb:But2 b g w w1) (h1:q≠b) (h2:q≠g):Ro w1 q vs T:=(hb.block q h.lt h1 h2).trans h
namespace po_
theorem catch_fail (a f:Nat) (q x:Int) (y:Bool) (w:World) (hne:a≠f) (ha:w.cell? ⟨a,0,none⟩=some (.int .i64 x)) (hz:w.frozen? ⟨a,0,none⟩=false) (hf:w.cell? ⟨f,0,none⟩=some (.bool y)) (hy:w.frozen? ⟨f,0,none⟩=false) :
 CallsD Tryz.prog 212 #[.pointer (some ⟨a,0,none⟩),.pointer (some ⟨f,0,none⟩)] (.panicking [{ v:=.iface 247 (.int .i64 q),recovered:=false }]) w fun e u' w' =>
  e=.returned (.tuple #[])∧u'=.panicking [{ v:=.iface 247 (.int .i64 q),recovered:=true }]∧w'=(w.setCell ⟨a,0,none⟩ (.int .i64 q)).setCell ⟨f,0,none⟩ (.bool true):=by
 have hta:∀ w:World,(Instr.typeAssert (.iface 247 (.int .i64 q)) 20 247 true).run Tryz.prog w=.ok (.tuple #[.int .i64 q,.bool true]) w:=fun _=>rfl
 refine callsD_of_wpS Tryz.func212 rfl fun c₀ cs hu=>?_
 apply wpS_seq
 apply wpS_region
 simp [wpOpsS,go_sem,recoverD,hu,Tryz.ntmps212,Exit.thenS]
 show Code.wpS _ _ _ { tmps:=#[.pointer (some ⟨a,0,none⟩),.pointer (some ⟨f,0,none⟩),.iface 247 (.int .i64 q),undef,undef,.iface 247 (.int .i64 q),undef,undef,undef,undef,undef,undef,undef,undef,undef,undef,undef],defers:=[] } _ _
 refine wpS_of_wp ?_
 generalize hQ:(fun (e:Exit) (a':Act) (w':World)=>bodyPostS Tryz.prog Tryz.f212 c₀ cs _ e a' _ w')=Q'
 go_wp2
 subst hQ
 simp [bodyPostS,results,Tryz.results212]
theorem catch_idle (a f:Nat) (w:World) :
 CallsD Tryz.prog 212 #[.pointer (some ⟨a,0,none⟩),.pointer (some ⟨f,0,none⟩)] .returning w fun e u' w'=>e=.returned (.tuple #[])∧u'=.returning∧w'=w:=by
 refine callsD_of_wpS Tryz.func212 rfl fun c₀ cs hu=>?_
 apply wpS_seq
 apply wpS_region
 simp [wpOpsS,go_sem,recoverD,hu,Tryz.ntmps212,Exit.thenS]
 show Code.wpS _ _ _ { tmps:=#[.pointer (some ⟨a,0,none⟩),.pointer (some ⟨f,0,none⟩),.nilIface,undef,undef,.nilIface,undef,undef,undef,undef,undef,undef,undef,undef,undef,undef,undef],defers:=[] } _ _
 refine wpS_of_wp ?_
 generalize hQ:(fun (e:Exit) (a':Act) (w':World)=>bodyPostS Tryz.prog Tryz.f212 c₀ cs _ e a' _ w')=Q'
 go_wp2
 subst hQ
 cases c₀
 simp_all [bodyPostS,results,Tryz.results212]
theorem attempt_yes (F b g:Nat) (caps:Array Value) (R:World→Prop) (w:World)
 (hC:∀ (args:Array Value) (w:World),(callFunc F args).run Tryz.prog w=.ok (.enter F args) w)
 (hS:∀ w1,Below w.heap.size w w1→Calls Tryz.prog F caps w1 fun e w2=>e=.returned (.tuple #[])∧R w2∧But2 b g w1 w2)
 (hR:∀ (w2:World) (q o:Nat) (v:Value),w.heap.size≤q→R w2→R (w2.setCell ⟨q,o,none⟩ v)) (hb:b<w.heap.size) (hg:g<w.heap.size) :
 Calls Tryz.prog 184 #[.func (.func F) #[] caps] w fun e w'=>e=.returned (.tuple #[.int .i64 0,.bool false])∧R w'∧But2 b g w w':=by
 have hmf:∀ (fn:Fn) (first cap:Array Value) (w:World),(Instr.makeFunc fn first cap).run Tryz.prog w=.ok (.func fn first cap) w:=fun _ _ _ _=>rfl
 have hb0:=bl_alloc (bl_new w (.cells #[.int .i64 0] 3)) (.cells #[.bool false] 4)
 have x0:Bx ((w.alloc (.cells #[.int .i64 0] 3)).alloc (.cells #[.bool false] 4)) w.heap.size [.int .i64 0]:=(Bx.new w [.int .i64 0] 3).alloc _
 have y0:Bx ((w.alloc (.cells #[.int .i64 0] 3)).alloc (.cells #[.bool false] 4)) (w.heap.size+1) [.bool false]:=by have:=Bx.new (w.alloc (.cells #[.int .i64 0] 3)) [.bool false] 4;simpa using this
 replace hS:=hide hS
 replace hR:=hide hR
 go_enter_defers Tryz.func184,Tryz.ntmps184
 go_wp2_with fail
 generalize (w.alloc (.cells #[.int .i64 0] 3)).alloc (.cells #[.bool false] 4)=w0 at *
 refine (hS.out _ hb0).mono ?_
 rintro e w2 ⟨rfl,hr,h2⟩
 have x2:=x0.but2 h2 (by omega) (by omega)
 have y2:=y0.but2 h2 (by omega) (by omega)
 have hr2:=hide (hR.out _ (w.heap.size+1) 0 (.bool false) (by omega) (hR.out w2 w.heap.size 0 (.int .i64 0) (by omega) hr))
 have hb2:=hide (((But2.of (b:=b) (g:=g) hb0).trans h2).setNew (q:=w.heap.size) (o:=0) (by omega) (.int .i64 0) |>.setNew (q:=w.heap.size+1) (o:=0) (by omega) (.bool false))
 have c0:=x2.2.1 0 _ rfl
 have f0:=x2.2.2 0
 have c1:=y2.2.1 0 _ rfl
 have f1:=y2.2.2 0
 clear x0 y0 hb0 h2 hr x2 y2 hS hR
 go_wp2_with fail
 refine leaves_cons (f:=212) (args:=#[.pointer (some ⟨w.heap.size,0,none⟩),.pointer (some ⟨w.heap.size+1,0,none⟩)]) (by simp) (by simp [go_sem]) ?_
 refine (catch_idle w.heap.size (w.heap.size+1) _).mono ?_
 rintro e u' w'' ⟨rfl,rfl,rfl⟩
 simp [Leaves,settle,results,Tryz.results184,go_sem,c0,c1]
 exact ⟨hr2.out,hb2.out⟩
theorem attempt_no (F b g:Nat) (caps:Array Value) (w:World)
 (hC:∀ (args:Array Value) (w:World),(callFunc F args).run Tryz.prog w=.ok (.enter F args) w)
 (hS:∀ w1,Below w.heap.size w w1→Calls Tryz.prog F caps w1 fun e w2=>(∃ q:Int,e=fail q)∧But2 b g w1 w2) (hb:b<w.heap.size) (hg:g<w.heap.size) :
 Calls Tryz.prog 184 #[.func (.func F) #[] caps] w fun e w'=>(∃ q:Int,e=.returned (.tuple #[.int .i64 q,.bool true]))∧But2 b g w w':=by
 have hmf:∀ (fn:Fn) (first cap:Array Value) (w:World),(Instr.makeFunc fn first cap).run Tryz.prog w=.ok (.func fn first cap) w:=fun _ _ _ _=>rfl
 have hb0:=bl_alloc (bl_new w (.cells #[.int .i64 0] 3)) (.cells #[.bool false] 4)
 have x0:Bx ((w.alloc (.cells #[.int .i64 0] 3)).alloc (.cells #[.bool false] 4)) w.heap.size [.int .i64 0]:=(Bx.new w [.int .i64 0] 3).alloc _
 have y0:Bx ((w.alloc (.cells #[.int .i64 0] 3)).alloc (.cells #[.bool false] 4)) (w.heap.size+1) [.bool false]:=by have:=Bx.new (w.alloc (.cells #[.int .i64 0] 3)) [.bool false] 4;simpa using this
 replace hS:=hide hS
 go_enter_defers Tryz.func184,Tryz.ntmps184
 go_wp2_with fail
 generalize (w.alloc (.cells #[.int .i64 0] 3)).alloc (.cells #[.bool false] 4)=w0 at *
 refine (hS.out _ hb0).mono ?_
 rintro e w2 ⟨⟨q,rfl⟩,h2⟩
 have x2:=x0.but2 h2 (by omega) (by omega)
 have y2:=y0.but2 h2 (by omega) (by omega)
 have hb2:=hide (((But2.of (b:=b) (g:=g) hb0).trans h2).setNew (q:=w.heap.size) (o:=0) (by omega) (.int .i64 q) |>.setNew (q:=w.heap.size+1) (o:=0) (by omega) (.bool true))
 have c0:=x2.2.1 0 _ rfl
 have f0:=x2.2.2 0
 have c1:=y2.2.1 0 _ rfl
 have f1:=y2.2.2 0
 clear x0 y0 hb0 h2 x2 y2 hS
 unfold fail
 go_wp2_with fail
 refine leaves_cons (f:=212) (args:=#[.pointer (some ⟨w.heap.size,0,none⟩),.pointer (some ⟨w.heap.size+1,0,none⟩)]) (by simp) (by simp [go_sem]) ?_
 refine (catch_fail w.heap.size (w.heap.size+1) q 0 false _ (by omega) c0 f0 c1 f1).mono ?_
 rintro e u' w'' ⟨rfl,rfl,rfl⟩
 simp [Leaves,settle,results,Tryz.results184,go_sem,c0,c1]
 exact hb2.out
theorem attempt_at (F b g:Nat) (q:Int) (caps:Array Value) (w:World)
 (hC:∀ (args:Array Value) (w:World),(callFunc F args).run Tryz.prog w=.ok (.enter F args) w)
 (hS:∀ w1,Below w.heap.size w w1→Calls Tryz.prog F caps w1 fun e w2=>e=fail q∧But2 b g w1 w2) (hb:b<w.heap.size) (hg:g<w.heap.size) :
 Calls Tryz.prog 184 #[.func (.func F) #[] caps] w fun e w'=>e=.returned (.tuple #[.int .i64 q,.bool true])∧But2 b g w w':=by
 have hmf:∀ (fn:Fn) (first cap:Array Value) (w:World),(Instr.makeFunc fn first cap).run Tryz.prog w=.ok (.func fn first cap) w:=fun _ _ _ _=>rfl
 have hb0:=bl_alloc (bl_new w (.cells #[.int .i64 0] 3)) (.cells #[.bool false] 4)
 have x0:Bx ((w.alloc (.cells #[.int .i64 0] 3)).alloc (.cells #[.bool false] 4)) w.heap.size [.int .i64 0]:=(Bx.new w [.int .i64 0] 3).alloc _
 have y0:Bx ((w.alloc (.cells #[.int .i64 0] 3)).alloc (.cells #[.bool false] 4)) (w.heap.size+1) [.bool false]:=by have:=Bx.new (w.alloc (.cells #[.int .i64 0] 3)) [.bool false] 4;simpa using this
 replace hS:=hide hS
 go_enter_defers Tryz.func184,Tryz.ntmps184
 go_wp2_with fail
 generalize (w.alloc (.cells #[.int .i64 0] 3)).alloc (.cells #[.bool false] 4)=w0 at *
 refine (hS.out _ hb0).mono ?_
 rintro e w2 ⟨rfl,h2⟩
 have x2:=x0.but2 h2 (by omega) (by omega)
 have y2:=y0.but2 h2 (by omega) (by omega)
 have hb2:=hide (((But2.of (b:=b) (g:=g) hb0).trans h2).setNew (q:=w.heap.size) (o:=0) (by omega) (.int .i64 q) |>.setNew (q:=w.heap.size+1) (o:=0) (by omega) (.bool true))
 have c0:=x2.2.1 0 _ rfl
 have f0:=x2.2.2 0
 have c1:=y2.2.1 0 _ rfl
 have f1:=y2.2.2 0
 clear x0 y0 hb0 h2 x2 y2 hS
 unfold fail
 go_wp2_with fail
 refine leaves_cons (f:=212) (args:=#[.pointer (some ⟨w.heap.size,0,none⟩),.pointer (some ⟨w.heap.size+1,0,none⟩)]) (by simp) (by simp [go_sem]) ?_
 refine (catch_fail w.heap.size (w.heap.size+1) q 0 false _ (by omega) c0 f0 c1 f1).mono ?_
 rintro e u' w'' ⟨rfl,rfl,rfl⟩
 simp [Leaves,settle,results,Tryz.results184,go_sem,c0,c1]
 exact hb2.out
end po_
theorem gr_rdc (d:RD):Gr Tryz.prog 81 6 (rdc d):=⟨by rw [show (rdc d).size=6 from rfl];kernel_rfl,rfl,by simp [rdc,Value.oneCell']⟩
theorem results_c12 {P:Program} {fn:Func} {a t b c:Nat} (hr:fn.results=#[.cell a t,.tmp b,.tmp c]) {tmps:Array Value} {p:Addr} {w:World} {v x y:Value} (hp:tmps.getD a undef=.pointer (some p)) (hx:tmps.getD b undef=x) (hy:tmps.getD c undef=y)
 (h:(loadVar t p).run P w=.ok v w):(results fn tmps).run P w=.ok (.tuple #[v,x,y]) w:=by
 simp only [Array.getD_eq_getD_getElem?] at hp hx hy
 simp [results,hr,hp,hx,hy,asAddr,h]
theorem But2.row {b g q:Nat} {w w1:World} (h:But2 b g w w1) (hq:q=b∨q=g∨w.heap.size≤q) (cs:Array Value):But2 b g w (w1.setRow q cs) :=
 ⟨h.os,h.tape,h.output,by rw [size_setRow];exact h.size,fun k hk hn hm=>by rw [setRow_other w1 q k cs (by omega)];exact h.block k hk hn hm⟩
namespace po_
theorem day1_yes (s:ByteArray) (d:RD) (n b g p:Nat) (w:World) (hs:s.size≤1000000) (hp:Pz w b s ((0:Nat):Int)) (hv:Bx w p [.pointer (some ⟨b,0,none⟩)]) (hg:Ro w g (rdc rd0) 81) (h1:b≠g) (h2:p≠b) (h3:p≠g) (hd:ptDay (byt s)=some (d,n)) :
 Calls Tryz.prog 282 #[.pointer (some ⟨p,0,none⟩),.pointer (some ⟨g,0,none⟩)] w fun e w'=>e=.returned (.tuple #[])∧(Pz w' b s (n:Int)∧Ro w' g (rdc d) 81)∧But2 b g w w':=by
 have D:=hide (fun w hp=>dat_ s 0 b w hs (by omega) hp)
 simp only [rst,List.drop_zero,hd,Nat.zero_add] at D
 have G:=gr_rdc d
 have P:=hide hp
 have hD:=hide hg
 have c0:=hv.2.1 0 _ rfl
 have e0:(rdc rd0).size=(rdc d).size:=rfl
 generalize rdc d=cs at *
 generalize rdc rd0=z at *
 clear hp hg hv hd
 go_enter Tryz.func282,Tryz.ntmps282
 go_wp2_with fail
 refine (D.out _ P.out).mono ?_
 rintro e w1 ⟨rfl,p1,hb⟩
 replace hD:=hide (hD.out.but hb (by omega))
 replace P:=hide p1
 clear p1 c0
 go_wp2_with (refine wpList_store_row rfl 81 _ _ rfl _ _ rfl rfl _ _ hD.out G.1 e0 G.2.2 ?_)
 go_end0
 exact ⟨rfl,⟨P.out.row (by omega) _,ro_row hD.out _⟩,(But2.one hb).row (.inr (.inl rfl)) _⟩
theorem day1_no (s:ByteArray) (b g p:Nat) (w:World) (hs:s.size≤1000000) (hp:Pz w b s ((0:Nat):Int)) (hv:Bx w p [.pointer (some ⟨b,0,none⟩)]) (hd:ptDay (byt s)=none) :
 Calls Tryz.prog 282 #[.pointer (some ⟨p,0,none⟩),.pointer (some ⟨g,0,none⟩)] w fun e w'=>(∃ q:Int,e=fail q)∧But2 b g w w':=by
 have D:=hide (fun w hp=>dat_ s 0 b w hs (by omega) hp)
 simp only [rst,List.drop_zero,hd] at D
 have P:=hide hp
 have c0:=hv.2.1 0 _ rfl
 clear hp hv hd
 go_enter Tryz.func282,Tryz.ntmps282
 go_wp2_with fail
 refine (D.out _ P.out).mono ?_
 rintro e w1 ⟨q,rfl,hb⟩
 unfold fail
 go_wp2
 exact ⟨rfl,⟨_,rfl⟩,But2.one hb⟩
theorem laid4 (w:World) (Z:Array Value) (T U V:TypeId) (s:ByteArray) (W:World) (hW:W=(((w.alloc (.cells Z T)).alloc (.cells #[.string s,.int .i64 0] U)).alloc (.cells #[.pointer (some ⟨w.heap.size+1,0,none⟩)] V)).alloc (.cells Z T)) :
 Below w.heap.size w W∧Pz W (w.heap.size+1) s ((0:Nat):Int)∧Bx W (w.heap.size+1+1) [.pointer (some ⟨w.heap.size+1,0,none⟩)]∧Ro W (w.heap.size+1+1+1) Z T∧Ro W w.heap.size Z T∧W.heap.size=w.heap.size+4:=by
 subst hW
 have s1:(w.alloc (.cells Z T)).heap.size=w.heap.size+1:=by simp
 have s2:((w.alloc (.cells Z T)).alloc (.cells #[.string s,.int .i64 0] U)).heap.size=w.heap.size+1+1:=by simp
 have s3:(((w.alloc (.cells Z T)).alloc (.cells #[.string s,.int .i64 0] U)).alloc (.cells #[.pointer (some ⟨w.heap.size+1,0,none⟩)] V)).heap.size=w.heap.size+1+1+1:=by simp
 have r0:=Ro.new w Z T
 have b0:=bl_new w (.cells Z T)
 generalize w.alloc (.cells Z T)=w1 at *
 have r1:Pz (w1.alloc (.cells #[.string s,.int .i64 0] U)) (w.heap.size+1) s ((0:Nat):Int):=by have:=Bx.new w1 [.string s,.int .i64 0] U;rwa [s1] at this
 replace r0:=r0.alloc (.cells #[.string s,.int .i64 0] U)
 replace b0:=bl_alloc b0 (.cells #[.string s,.int .i64 0] U)
 generalize w1.alloc (.cells #[.string s,.int .i64 0] U)=w2 at *
 have r2:Bx (w2.alloc (.cells #[.pointer (some ⟨w.heap.size+1,0,none⟩)] V)) (w.heap.size+1+1) [.pointer (some ⟨w.heap.size+1,0,none⟩)]:=by have:=Bx.new w2 [.pointer (some ⟨w.heap.size+1,0,none⟩)] V;rwa [s2] at this
 replace r0:=r0.alloc (.cells #[.pointer (some ⟨w.heap.size+1,0,none⟩)] V)
 replace r1:=r1.below (bl_new w2 (.cells #[.pointer (some ⟨w.heap.size+1,0,none⟩)] V))
 replace b0:=bl_alloc b0 (.cells #[.pointer (some ⟨w.heap.size+1,0,none⟩)] V)
 generalize w2.alloc (.cells #[.pointer (some ⟨w.heap.size+1,0,none⟩)] V)=w3 at *
 have r3:Ro (w3.alloc (.cells Z T)) (w.heap.size+1+1+1) Z T:=by have:=Ro.new w3 Z T;rwa [s3] at this
 exact ⟨bl_alloc b0 _,r1.below (bl_new _ _),r2.alloc _,r3,r0.alloc _,by simp;omega⟩
theorem stable {b g:Nat} {s:ByteArray} {n:Int} {cs:Array Value} {T:TypeId} {B:Nat} (hb:b<B) (hg:g<B) (w2:World) (q o:Nat) (v:Value) (hq:B≤q) (h:Pz w2 b s n∧Ro w2 g cs T):Pz (w2.setCell ⟨q,o,none⟩ v) b s n∧Ro (w2.setCell ⟨q,o,none⟩ v) g cs T :=
 ⟨h.1.set_ne o (by omega) v,ro_set_ne h.2 (by omega) o v⟩
theorem Day_no (s:ByteArray) (w:World) (hs:s.size≤1000000) (hd:ptDay (byt s)=none):Calls Tryz.prog 265 #[.string s] w fun e w'=>e=.returned (.tuple #[vday rd0,.int .i64 0,.bool false])∧Below w.heap.size w w':=by
 have hmf:∀ (fn:Fn) (first cap:Array Value) (w:World),(Instr.makeFunc fn first cap).run Tryz.prog w=.ok (.func fn first cap) w:=fun _ _ _ _=>rfl
 obtain ⟨W,hW⟩:∃ W,W=(((w.alloc (.cells (rdc rd0) 81)).alloc (.cells #[.string s,.int .i64 0] 216)).alloc (.cells #[.pointer (some ⟨w.heap.size+1,0,none⟩)] 214)).alloc (.cells (rdc rd0) 81):=⟨_,rfl⟩
 obtain ⟨h1,h2,h3,h4,h5,h6⟩:=laid4 w _ _ _ _ s W hW
 have A:=attempt_no 282 (w.heap.size+1) (w.heap.size+1+1+1) #[.pointer (some ⟨w.heap.size+1+1,0,none⟩),.pointer (some ⟨w.heap.size+1+1+1,0,none⟩)] W (enters Tryz.func282 (by kernel_rfl) (by kernel_rfl))
  (fun w1 hb=>day1_no s _ _ _ w1 hs (h2.below hb) (h3.below hb) hd) (by omega) (by omega)
 have G:=gr_rdc rd0
 replace A:=hide A
 replace h5:=hide h5
 clear h2 h3 h4 hd
 simp only [rdc,rd0] at hW
 go_enter Tryz.func265,Tryz.ntmps265
 go_wp2_with fail
 rw [← hW]
 refine A.out.mono ?_
 rintro e w1 ⟨⟨q,rfl⟩,hb⟩
 have hR:=hide (h5.out.but2 hb (by omega) (by omega))
 have hB:=hide (h1.trans (hb.below (B:=w.heap.size) (by omega) (by omega) (by omega)))
 clear h5 hb h1 A hW h6
 go_wp2_with (refine wpList_store_row rfl 81 _ _ rfl _ _ rfl rfl _ _ hR.out G.1 rfl G.2.2 ?_)
 have hl:=((ro_row hR.out (rdc rd0)).load 81 _ Tryz.underlying81 rfl G.1).2
 exact bodyPost_ret (results_c12 Tryz.results265 rfl rfl rfl hl) rfl ⟨rfl,bl_row hB.out (Nat.le_refl _) _⟩
theorem Day_yes (s:ByteArray) (d:RD) (n:Nat) (w:World) (hs:s.size≤1000000) (hd:ptDay (byt s)=some (d,n)):Calls Tryz.prog 265 #[.string s] w fun e w'=>e=.returned (.tuple #[vday d,.int .i64 n,.bool true])∧Below w.heap.size w w':=by
 have hmf:∀ (fn:Fn) (first cap:Array Value) (w:World),(Instr.makeFunc fn first cap).run Tryz.prog w=.ok (.func fn first cap) w:=fun _ _ _ _=>rfl
 obtain ⟨W,hW⟩:∃ W,W=(((w.alloc (.cells (rdc rd0) 81)).alloc (.cells #[.string s,.int .i64 0] 216)).alloc (.cells #[.pointer (some ⟨w.heap.size+1,0,none⟩)] 214)).alloc (.cells (rdc rd0) 81):=⟨_,rfl⟩
 obtain ⟨h1,h2,h3,h4,h5,h6⟩:=laid4 w _ _ _ _ s W hW
 have A:=attempt_yes 282 (w.heap.size+1) (w.heap.size+1+1+1) #[.pointer (some ⟨w.heap.size+1+1,0,none⟩),.pointer (some ⟨w.heap.size+1+1+1,0,none⟩)] (fun w'=>Pz w' (w.heap.size+1) s (n:Int)∧Ro w' (w.heap.size+1+1+1) (rdc d) 81) W (enters Tryz.func282 (by kernel_rfl) (by kernel_rfl))
  (fun w1 hb=>day1_yes s d n _ _ _ w1 hs (h2.below hb) (h3.below hb) (h4.below hb) (by omega) (by omega) (by omega) hd) (fun w2 q o v hq h=>stable (by omega) (by omega) w2 q o v hq h) (by omega) (by omega)
 have G:=gr_rdc d
 replace A:=hide A
 replace h5:=hide h5
 clear h2 h4 hd
 simp only [rdc,rd0] at hW
 go_enter Tryz.func265,Tryz.ntmps265
 go_wp2_with fail
 rw [← hW]
 refine A.out.mono ?_
 rintro e w1 ⟨rfl,⟨hP,hD⟩,hb⟩
 have hR:=hide (h5.out.but2 hb (by omega) (by omega))
 have hB:=hide (h1.trans (hb.below (B:=w.heap.size) (by omega) (by omega) (by omega)))
 have hV:=h3.but2 hb (by omega) (by omega)
 have c0:=hV.2.1 0 _ rfl
 have c1:=hP.2.1 1 _ rfl
 obtain ⟨a,c,m,k,x,v⟩:=d
 have g0:=(ro_cf hD 0 (.int .i64 a) rfl).1
 have g1:=(ro_cf hD 1 (.int .i64 c) rfl).1
 have g2:=(ro_cf hD 2 (.int .i64 m) rfl).1
 have g3:=(ro_cf hD 3 (.int .i64 k) rfl).1
 have g4:=(ro_cf hD 4 (.int .i64 x) rfl).1
 have g5:=(ro_cf hD 5 (.int .i64 v) rfl).1
 obtain ⟨r0,f0⟩:=ro_cf hR.out 0 (.int .i64 0) rfl
 obtain ⟨r1,f1⟩:=ro_cf hR.out 1 (.int .i64 0) rfl
 obtain ⟨r2,f2⟩:=ro_cf hR.out 2 (.int .i64 0) rfl
 obtain ⟨r3,f3⟩:=ro_cf hR.out 3 (.int .i64 0) rfl
 obtain ⟨r4,f4⟩:=ro_cf hR.out 4 (.int .i64 0) rfl
 obtain ⟨r5,f5⟩:=ro_cf hR.out 5 (.int .i64 0) rfl
 clear h3 h5 hb h1 A hW h6 hP hD hV
 go_upto_region 6 with fail
 have hF:Ro _ w.heap.size (rdc (a,c,m,k,x,v)) 81:=(ro_set (ro_set (ro_set (ro_set (ro_set (ro_set (hR.out) 0 (.int .i64 a)) 1 (.int .i64 c)) 2 (.int .i64 m)) 3 (.int .i64 k)) 4 (.int .i64 x)) 5 (.int .i64 v)).drew
 have hl:=(hF.load 81 _ Tryz.underlying81 rfl G.1).2
 have hX:=bl_drew (bl_set (o:=5) (bl_set (o:=4) (bl_set (o:=3) (bl_set (o:=2) (bl_set (o:=1) (bl_set (o:=0) (hB.out) (Nat.le_refl _) (.int .i64 a)) (Nat.le_refl _) (.int .i64 c)) (Nat.le_refl _) (.int .i64 m)) (Nat.le_refl _) (.int .i64 k)) (Nat.le_refl _) (.int .i64 x)) (Nat.le_refl _) (.int .i64 v))
 go_region
 go_wp2
 exact bodyPost_ret (results_c12 Tryz.results265 rfl rfl rfl hl) rfl ⟨rfl,hX⟩
end po_
end Go.Proofs.YtpapfpcehlhgeaaGreatDoor
