/-
  Texts of mine in one file: Base2, BlM, Owk, BlW. Their conditions stand in the theorems.
-/
import Derived.WalkKit
import Derived.ProofKit
import Derived.OpenShut
import Derived.ShutString
import Derived.ChangeOld
import Derived.Below
import Derived.BigQuiet
import Derived.Deep.QuietTactic
import Derived.Deep.Draws
import Derived.Deep.AppendLies
import Derived.Maps.AppendAt
import Derived.OwnWalk
import Derived.Laws.OwnMore
import Derived.Laws.CopyOwn
import Derived.Laws.AppendOwnNone
import Derived.Laws.BitsAllLaws
namespace Go.Proofs.YtpapfpcehlhgeaaGreatDoor
set_option linter.unusedVariables false
set_option linter.unusedSimpArgs false
set_option maxRecDepth 100000
set_option maxHeartbeats 16000000
open Go.ChangeShapes Go.WideShapes Go.ChangeAt Go.RowKit
abbrev zA17 : Array Value := #[.string ⟨#[]⟩, .int .i64 0, .bool false, .string ⟨#[]⟩, .int .i64 0, .int .i64 0, .int .i64 0, .int .i64 0, .int .i64 0, .int .i64 0, .int .i64 0, .int .i64 0, .int .i64 0, .int .i64 0, .int .i64 0, .int .i64 0, .int .i64 0]
abbrev zA6 : Array Value := #[.int .i64 0, .int .i64 0, .int .i64 0, .int .i64 0, .int .i64 0, .int .i64 0]
abbrev zA6t : Array Value := #[.int .i64 0, .int .i64 0, .int .i64 0, .int .i64 0, .int .i64 0, .int .i64 7200]
abbrev zS7 : Array Value := #[.slice none 0 0, .slice none 0 0, .slice none 0 0, .slice none 0 0, .slice none 0 0, .slice none 0 0, .slice none 0 0]
theorem sI1 {α : Type} (l : List α) (i : Nat) (a : α) : l.toArray.setIfInBounds i a = (l.set i a).toArray := List.setIfInBounds_toArray l i a
theorem sI2 {α : Type} (x : α) (xs : List α) (a : α) : (x :: xs).set 0 a = a :: xs := rfl
theorem sI3 {α : Type} (x : α) (xs : List α) (n : Nat) (a : α) : (x :: xs).set (n + 1) a = x :: xs.set n a := rfl
theorem hide {p:Prop} (h:p):Hid p:=h
theorem retb {a b:Bool} (h:a=b):Ending.returned (.bool a)=.returned (.bool b):=by rw [h]
theorem reti {k:IntKind} {a b:Int} (h:a=b):Ending.returned (.int k a)=.returned (.int k b):=by rw [h]
theorem addr_block (a:Addr) (n:Nat):(a.add n).block=a.block:=by
 unfold Addr.add
 split <;> rfl
theorem addr_add (a:Addr) (i j:Nat):(a.add i).add j=a.add (i+j):=by
 unfold Addr.add
 by_cases hi:i=0 <;> by_cases hj:j=0 <;> simp [hi,hj,Nat.add_assoc]
theorem addr_flat (g o j:Nat):(⟨g,o,none⟩:Addr).add j=⟨g,o+j,none⟩:=by
 unfold Addr.add
 split
 ·rename_i h
  have:j=0:=by simpa using h
  subst this
  rfl
 ·rfl
theorem cell_lt {w:World} {p:Addr} {v:Value} (h:w.cell? p=some v):p.block<w.heap.size:=by
 rcases Nat.lt_or_ge p.block w.heap.size with hlt | hge
 ·exact hlt
 ·unfold World.cell? at h
  rw [Array.getElem?_eq_none hge] at h
  simp at h
theorem bel_drewN {B:Nat} {a w:World} (h:Below B a w) (n:Nat):Below B a (w.drewN n):=⟨h.os,h.tape,h.output,h.size,h.block⟩
theorem bel_next {w w1 w2:World} (h:Below w.heap.size w w1) (h2:Below w1.heap.size w1 w2):Below w.heap.size w w2:=h.trans (h2.mono h.size)
theorem bl_refl (w:World):Below w.heap.size w w:=Below.refl _ _
theorem bl_alloc {a w:World} (h:Below a.heap.size a w) (o:Obj):Below a.heap.size a (w.alloc o):=h.alloc h.size o
theorem bl_new (w:World) (o:Obj):Below w.heap.size w (w.alloc o):=bl_alloc (Below.refl _ _) o
def Rd (w:World) (A:Option Addr) (n:Nat) (xs:List Value):Prop :=
 xs.length=n∧(0<n→∃ ad,A=some ad∧∀ i v,xs[i]?=some v→w.cell? (ad.add i)=some v)
section
variable {w w':World} {A:Option Addr} {n:Nat} {xs:List Value}
theorem Rd.len (h:Rd w A n xs):xs.length=n:=h.1
theorem Rd.none_ (w:World):Rd w none 0 []:=⟨rfl,fun h=>absurd h (by omega)⟩
theorem Rd.at_ (h:Rd w A n xs) {i:Nat} (hi:i<n):∃ ad v,A=some ad∧xs[i]?=some v∧w.cell? (ad.add i)=some v:=by
 obtain ⟨ad,e,hc⟩:=h.2 (by omega)
 have hl:i<xs.length:=by have:=h.1;omega
 exact ⟨ad,xs[i],e,List.getElem?_eq_getElem hl,hc i _ (List.getElem?_eq_getElem hl)⟩
theorem Rd.flat {g o:Nat} (h:Rd w (some ⟨g,o,none⟩) n xs) {i:Nat} {v:Value} (hv:xs[i]?=some v):w.cell? ⟨g,o+i,none⟩=some v:=by
 have hi:i<n:=by
  have:=(List.getElem?_eq_some_iff.1 hv).1
  have:=h.1
  omega
 obtain ⟨ad,e,hc⟩:=h.2 (by omega)
 cases e
 have:=hc i v hv
 rwa [addr_flat] at this
theorem Rd.flat0 {g:Nat} (h:Rd w (some ⟨g,0,none⟩) n xs) {i:Nat} {v:Value} (hv:xs[i]?=some v):w.cell? ⟨g,i,none⟩=some v:=by
 have:=h.flat hv
 rwa [Nat.zero_add] at this
theorem Rd.keep (h:Rd w A n xs) (hk:∀ p:Addr,p.block<w.heap.size→w'.cell? p=w.cell? p):Rd w' A n xs :=
 ⟨h.1,fun hn=>by
  obtain ⟨ad,e,hc⟩:=h.2 hn
  exact ⟨ad,e,fun i v hi=>by have:=hc i v hi;rw [hk _ (cell_lt this)];exact this⟩⟩
theorem Rd.below (h:Rd w A n xs) (hb:Below w.heap.size w w'):Rd w' A n xs:=h.keep fun _ hp=>hb.cell hp
theorem Rd.alloc (h:Rd w A n xs) (o:Obj):Rd (w.alloc o) A n xs:=h.below (bl_new w o)
theorem Rd.drew (h:Rd w A n xs):Rd w.drew A n xs:=h
theorem Rd.drewN (h:Rd w A n xs) (k:Nat):Rd (w.drewN k) A n xs:=h
theorem Rd.cut (h:Rd w A n xs) {k cap:Nat} (hk:k≤n) (hc:n≤cap):Rd w (if cap=k then A else A.map (·.add k)) (n - k) (xs.drop k):=by
 refine ⟨by rw [List.length_drop,h.1],fun hn=>?_⟩
 obtain ⟨ad,rfl,hcell⟩:=h.2 (by omega)
 rw [if_neg (by omega)]
 refine ⟨ad.add k,rfl,fun i v hi=>?_⟩
 rw [addr_add]
 exact hcell _ v (by rw [← hi,List.getElem?_drop])
theorem Rd.take (h:Rd w A n xs) {k:Nat} (hk:k≤n):Rd w A k (xs.take k):=by
 refine ⟨by rw [List.length_take,h.1];omega,fun hn=>?_⟩
 obtain ⟨ad,e,hcell⟩:=h.2 (by omega)
 refine ⟨ad,e,fun i v hi=>hcell i v ?_⟩
 rw [List.getElem?_take] at hi
 split at hi
 ·exact hi
 ·cases hi
end
def IsRw (k:IntKind) (w:World) (a:Option Addr) (len cap:Nat) (zs:List Int):Prop :=
 (a=none∧len=0∧cap=0∧zs=[]) ∨
 ∃ x,a=some x∧len≤cap∧cap≤maxLen∧zs.length=cap∧(∀ i,i<zs.length→w.cell? (x.add i)=some (.int k (zs.getD i 0)))∧∀ n ∈ zs,(Lit.int k n).wf=true
theorem IsRw.nil {k:IntKind} {w:World} {a:Option Addr} {len cap:Nat} {zs:List Int} (h:IsRw k w a len cap zs):a=none→len=0∧cap=0:=by
 rintro rfl
 rcases h with ⟨_,h1,h2,_⟩ | ⟨x,h,_⟩
 ·exact ⟨h1,h2⟩
 ·cases h
theorem IsRw.cap {k:IntKind} {w:World} {a:Option Addr} {len cap:Nat} {zs:List Int} (h:IsRw k w a len cap zs):len≤cap∧cap≤9223372036854775807:=by
 rcases h with ⟨_,h1,h2,_⟩ | ⟨x,h,h1,h2,_⟩
 ·omega
 ·exact ⟨h1,by simpa [maxLen] using h2⟩
theorem IsRw.rd {k:IntKind} {w:World} {a:Option Addr} {len cap:Nat} {zs:List Int} (h:IsRw k w a len cap zs):Rd w a len ((zs.take len).map (Value.int k)):=by
 rcases h with ⟨rfl,rfl,rfl,rfl⟩ | ⟨x,rfl,h1,h2,h3,h4,_⟩
 ·exact Rd.none_ w
 ·refine ⟨by simp;omega,fun _=>⟨x,rfl,fun i v hi=>?_⟩⟩
  have hl:i<len:=by
   have:=(List.getElem?_eq_some_iff.1 hi).1
   simp at this
   omega
  rw [List.getElem?_map,List.getElem?_take,if_pos hl] at hi
  rw [h4 i (by omega)]
  rw [List.getElem?_eq_getElem (by omega)] at hi
  simp at hi
  rw [← hi,List.getD_eq_getElem?_getD,List.getElem?_eq_getElem (by omega)]
  rfl
theorem IsRw.wf {k:IntKind} {w:World} {a:Option Addr} {len cap:Nat} {zs:List Int} (h:IsRw k w a len cap zs):∀ n ∈ zs.take len,(Lit.int k n).wf=true:=by
 intro n hn
 rcases h with ⟨rfl,rfl,rfl,rfl⟩ | ⟨x,rfl,h1,h2,h3,h4,h5⟩
 ·simp at hn
 ·exact h5 n (List.mem_of_mem_take hn)
theorem wf_u8 {n:Int} (h:(Lit.int .u8 n).wf=true):0≤n∧n<256:=by simp [Lit.wf,IntKind.min,IntKind.max,IntKind.signed,IntKind.bits] at h;omega
theorem wf_i64 {n:Int} (h:(Lit.int .i64 n).wf=true):-9223372036854775808≤n∧n<9223372036854775808:=by simp [Lit.wf,IntKind.min,IntKind.max,IntKind.signed,IntKind.bits] at h;omega
def Ow (w:World) (b:Nat) (e:TypeId) (A:Option Addr) (n c:Nat) (xs:List Value):Prop :=
 b≤w.heap.size∧w.ownsRow b e 1 (.slice A n c) n xs
section
variable {w w':World} {b:Nat} {e:TypeId} {A:Option Addr} {n c:Nat} {xs:List Value}
theorem Ow.len (h:Ow w b e A n c xs):xs.length=n:=by have:=h.2.1;omega
theorem Ow.base (h:Ow w b e A n c xs):b≤w.heap.size:=h.1
theorem Ow.nil (hb:b≤w.heap.size) (e:TypeId):Ow w b e none 0 0 []:=⟨hb,World.ownsRow_nil _ _ _ _⟩
theorem Ow.cap (h:Ow w b e A n c xs):n≤c:=by
 rcases h.2.2 with ⟨h',rfl⟩ | ⟨g,cap,cur,h',_,_,hn,_⟩
 ·omega
 ·injection h' with _ _ h3
  omega
theorem Ow.capMax (h:Ow w b e A n c xs):c≤maxLen:=by
 rcases h.2.2 with ⟨h',rfl⟩ | ⟨g,cap,cur,h',_,_,hn,hm,_⟩
 ·injection h' with _ _ h3
  omega
 ·injection h' with _ _ h3
  omega
theorem Ow.nilcap (h:Ow w b e A n c xs) (hA:A=none):n=0∧c=0:=by
 subst hA
 rcases h.2.2 with ⟨h',rfl⟩ | ⟨g,cap,cur,h',_⟩
 ·injection h' with _ _ h3
  exact ⟨rfl,h3⟩
 ·injection h' with h'
  cases h'
theorem Ow.lit (w:World) (e:TypeId) (xs:List Value) (hm:xs.length≤maxLen):Ow (w.alloc (.cells xs.toArray e)) w.heap.size e (some ⟨w.heap.size,0,none⟩) xs.length xs.length xs :=
 ⟨by simp,by simpa using World.ownsRow_lit (size:=1) (e:=e) w xs.toArray xs.length (Nat.le_refl _) hm (by simp)⟩
theorem Ow.drew (h:Ow w b e A n c xs):Ow w.drew b e A n c xs:=⟨h.1,h.2.drew⟩
theorem Ow.alloc (h:Ow w b e A n c xs) (o:Obj):Ow (w.alloc o) b e A n c xs:=⟨by have:=h.1;simp;omega,h.2.alloc o⟩
theorem Ow.mono (h:Ow w b e A n c xs) {b':Nat} (hb:b'≤b):Ow w b' e A n c xs :=
 ⟨Nat.le_trans hb h.1,h.2.1,h.2.2.imp id fun ⟨g,cap,cur,e1,e2,e3⟩=>⟨g,cap,cur,e1,Nat.le_trans hb e2,e3⟩⟩
theorem Ow.lt (h:Ow w b e A n c xs):∀ k,(Value.slice A n c).ownBlock=some k→b≤k∧k<w.heap.size:=h.2.lt
theorem Ow.below (h:Ow w b e A n c xs) (hb:Below w.heap.size w w'):Ow w' b e A n c xs:=by
 refine ⟨Nat.le_trans h.1 hb.size,h.2.1,?_⟩
 rcases h.2.2 with h' | ⟨g,cap,cur,e1,e2,e3,e4⟩
 ·exact .inl h'
 ·refine .inr ⟨g,cap,cur,e1,e2,?_,e4⟩
  have hg:g<w.heap.size:=(h.2.lt g (by rw [e1];rfl)).2
  exact (hb.block g hg).trans e3
theorem Ow.form (h:Ow w b e A n c xs) (hn:0<n):∃ g,A=some ⟨g,0,none⟩∧b≤g∧g<w.heap.size:=by
 rcases h.2.2 with ⟨_,h'⟩ | ⟨g,cap,cur,e1,e2,e3,e4⟩
 ·omega
 ·have hg:g<w.heap.size:=(h.2.lt g (by rw [e1];rfl)).2
  injection e1 with e1
  exact ⟨g,e1,e2,hg⟩
theorem Ow.rd (h:Ow w b e A n c xs):Rd w A n xs:=by
 refine ⟨h.len,fun hn=>?_⟩
 obtain ⟨g,rfl,_,_⟩:=h.form hn
 exact ⟨_,rfl,h.2.cells (g:=g) rfl⟩
theorem Ow.cell {g:Nat} (h:Ow w b e (some ⟨g,0,none⟩) n c xs) (j:Nat) (hj:j<n):w.cell? ⟨g,j,none⟩=xs[j]?:=h.2.cellAt j (by omega)
theorem Ow.frozen {g:Nat} (h:Ow w b e (some ⟨g,0,none⟩) n c xs) (j:Nat):w.frozen? ⟨g,j,none⟩=false:=h.2.frozenAt j
theorem Ow.set {g:Nat} (h:Ow w b e (some ⟨g,0,none⟩) n c xs) (j:Nat) (u:Value):Ow (w.setCell ⟨g,j,none⟩ u) b e (some ⟨g,0,none⟩) n c (xs.set j u) :=
 ⟨by have:=h.1;simpa [World.setCell] using this,(h.2.stored j u).1⟩
end
theorem Ow.setLow {w:World} {b:Nat} {e:TypeId} {A:Option Addr} {n c:Nat} {xs:List Value} (h:Ow w b e A n c xs) {g:Nat} (o:Nat) (hg:g<b) (u:Value):Ow (w.setCell ⟨g,o,none⟩ u) b e A n c xs :=
 ⟨by have:=h.1;simpa [World.setCell] using this,ownsRow_setCell_below h.2 (a:=⟨g,o,none⟩) hg u⟩
theorem bcell {W w1:World} (hb:Below W.heap.size W w1):(∀ b o,b<W.heap.size→w1.cell? ⟨b,o,none⟩=W.cell? ⟨b,o,none⟩)∧(∀ b o,b<W.heap.size→w1.frozen? ⟨b,o,none⟩=W.frozen? ⟨b,o,none⟩) :=
 ⟨fun b o h=>hb.cell (p:=⟨b,o,none⟩) h,fun b o h=>hb.frozen (p:=⟨b,o,none⟩) h⟩
theorem bl_set {a w:World} (h:Below a.heap.size a w) {g o:Nat} (hg:a.heap.size≤g) (v:Value):Below a.heap.size a (w.setCell ⟨g,o,none⟩ v):=h.setCell hg v
theorem bl_drew {a w:World} (h:Below a.heap.size a w):Below a.heap.size a w.drew:=bel_drewN h 1
def Bx (w:World) (g:Nat) (vs:List Value):Prop :=
 g<w.heap.size∧(∀ j v,vs[j]?=some v→w.cell? ⟨g,j,none⟩=some v)∧∀ j,w.frozen? ⟨g,j,none⟩=false
section
variable {w w':World} {g:Nat} {vs:List Value}
theorem Bx.new (w:World) (vs:List Value) (T:TypeId):Bx (w.alloc (.cells vs.toArray T)) w.heap.size vs :=
 ⟨by simp,fun j v h=>by rw [World.cell?_alloc_new];simpa using h,fun j=>World.frozen?_alloc_new _ _ _ _⟩
theorem Bx.new4 (w:World) (a b c d:Value) (T:TypeId):Bx (w.alloc (.cells #[a,b,c,d] T)) w.heap.size [a,b,c,d]:=Bx.new w [a,b,c,d] T
theorem Bx.snd4 (w:World) (o:Obj) (a b c d:Value) (T:TypeId):Bx ((w.alloc o).alloc (.cells #[a,b,c,d] T)) (w.heap.size+1) [a,b,c,d]:=by
 have:=Bx.new4 (w.alloc o) a b c d T
 simpa using this
theorem Bx.lt (h:Bx w g vs):g<w.heap.size:=h.1
theorem Bx.below (h:Bx w g vs) (hb:Below w.heap.size w w'):Bx w' g vs :=
 ⟨Nat.lt_of_lt_of_le h.1 hb.size,fun j v hj=>by rw [hb.cell (p:=⟨g,j,none⟩) h.1];exact h.2.1 j v hj,fun j=>by rw [hb.frozen (p:=⟨g,j,none⟩) h.1];exact h.2.2 j⟩
theorem Bx.alloc (h:Bx w g vs) (o:Obj):Bx (w.alloc o) g vs:=h.below (bl_new w o)
theorem Bx.drew (h:Bx w g vs):Bx w.drew g vs:=h
theorem Bx.set_ne (h:Bx w g vs) {g':Nat} (o:Nat) (hne:g'≠g) (u:Value):Bx (w.setCell ⟨g',o,none⟩ u) g vs :=
 ⟨by have:=h.1;simpa [World.setCell] using this,fun j v hj=>by rw [World.cell?_setCell_other _ _ _ _ (by intro e;injection e with e;exact hne e)];exact h.2.1 j v hj,fun j=>by rw [World.frozen?_setCell];exact h.2.2 j⟩
theorem Bx.set (h:Bx w g vs) (o:Nat) (u:Value) (ho:o<vs.length):Bx (w.setCell ⟨g,o,none⟩ u) g (vs.set o u):=by
 refine ⟨by have:=h.1;simpa [World.setCell] using this,fun j v hj=>?_,fun j=>by rw [World.frozen?_setCell];exact h.2.2 j⟩
 by_cases hjo:o=j
 ·subst hjo
  rw [List.getElem?_set_self ho] at hj
  cases hj
  exact World.cell?_setCell_same _ _ _ (h.2.1 o (vs[o]) (List.getElem?_eq_getElem ho))
 ·rw [List.getElem?_set_ne hjo] at hj
  rw [World.cell?_setCell_other _ _ _ _ (by intro e;injection e with _ e;exact hjo e)]
  exact h.2.1 j v hj
theorem Bx.store4 {a b c d a' b' c' d':Value} (h:Bx w g [a',b',c',d']):Bx ((((w.setCell ⟨g,0,none⟩ a).setCell ⟨g,1,none⟩ b).setCell ⟨g,2,none⟩ c).setCell ⟨g,3,none⟩ d) g [a,b,c,d] :=
 (((h.set 0 a (by simp)).set 1 b (by simp)).set 2 c (by simp)).set 3 d (by simp)
theorem Bx.away4 {a b c d:Value} (h:Bx w g vs) {g':Nat} (hne:g'≠g):Bx ((((w.setCell ⟨g',0,none⟩ a).setCell ⟨g',1,none⟩ b).setCell ⟨g',2,none⟩ c).setCell ⟨g',3,none⟩ d) g vs :=
 (((h.set_ne 0 hne a).set_ne 1 hne b).set_ne 2 hne c).set_ne 3 hne d
theorem bl_set4 {w0 w:World} {a b c d:Value} (h:Below w0.heap.size w0 w) {g:Nat} (hg:w0.heap.size≤g):Below w0.heap.size w0 ((((w.setCell ⟨g,0,none⟩ a).setCell ⟨g,1,none⟩ b).setCell ⟨g,2,none⟩ c).setCell ⟨g,3,none⟩ d) :=
 bl_set (bl_set (bl_set (bl_set h hg _) hg _) hg _) hg _
theorem Bx.grown {row:Option Nat} (h:Bx w g vs) (hg:w.grownBy w' row) (hne:some g≠row):Bx w' g vs :=
 ⟨Nat.lt_of_lt_of_le h.1 hg.size,fun j v hj=>by rw [hg.cell_far ⟨g,j,none⟩ h.1 hne];exact h.2.1 j v hj,fun j=>by rw [hg.frozen_far ⟨g,j,none⟩ h.1 hne];exact h.2.2 j⟩
theorem Bx.cells4 {a b c d:Value} (h:Bx w g [a,b,c,d]):w.cell? ⟨g,0,none⟩=some a∧w.cell? ⟨g,1,none⟩=some b∧w.cell? ⟨g,2,none⟩=some c∧w.cell? ⟨g,3,none⟩=some d :=
 ⟨h.2.1 0 _ rfl,h.2.1 1 _ rfl,h.2.1 2 _ rfl,h.2.1 3 _ rfl⟩
theorem Bx.fr (h:Bx w g vs) (j:Nat):w.frozen? ⟨g,j,none⟩=false:=h.2.2 j
end
theorem cellE {W w1:World} (hb:Below W.heap.size W w1) {a:Addr} {v:Value} (h:W.cell? a=some v):w1.cell? a=some v:=by
 rw [hb.cell (cell_lt h)]
 exact h
theorem cellA {W:World} {a:Addr} {v:Value} {o:Obj} (h:W.cell? a=some v):(W.alloc o).cell? a=some v:=cellE (bl_new W o) h
def ElT (P:Program) (t e:TypeId) (z:Value) (by_:Nat):Prop :=
 P.underlying t=some (.slice e)∧(P.info? e).map (fun i=>(i.zero,i.size,i.bytes))=some (some z,1,by_)∧z.cells=#[z]
section
variable {P:Program} {t e:TypeId} {z:Value} {by_:Nat} {ops:Array Oper} {rest:List Oper} {o:Oper} {a:Act} {Q:Exit→Act→World→Prop}
theorem ap1 (E:ElT P t e z by_) {W w0:World} {b B:Nat} {A:Option Addr} {n c:Nat} {xs:List Value} (hown:Ow W b e A n c xs) (hB:Below B w0 W) (hBb:B≤b)
 (s x:Operand) (u:Value) (hgd:o.guard=none) (ho:o.op=.call { callee:=.builtin .append,args:=#[s,x],argTypes:=#[t,t] })
 (hs:a.eval s=.slice A n c) (hx:a.eval x=.slice (some ⟨W.heap.size,0,none⟩) 1 1) (h1:u.oneCell'=true) (hm:n+1≤maxLen) (hby:(n+1) * by_≤140737488355328)
 (h:∀ A' c' w',Ow w' b e A' (n+1) c' (xs++[u])→Below B w0 w'→wpList P ops Q rest (a.put o.dst (.slice A' (n+1) c')) w') :
 wpList P ops Q (o :: rest) a (W.alloc (.cells #[u] e)):=by
 obtain ⟨i,hi,hz,hsz,hbb⟩:=info_parts E.2.1
 refine wpList_append_own _ hgd s x t ho b e i z 1 by_ E.1 hi hz hsz hbb (by rw [E.2.2];rfl) (by omega) (.slice A n c) n xs hs (hown.alloc _).2 ⟨W.heap.size,0,none⟩ 1 1 [u] hx rfl ?_ ?_ hm hby (hown.alloc _).1 ?_
 ·intro j v hj
  match j,hj with
  | 0,hj=>simp at hj;subst hj;simp [Addr.add]
 ·intro v hv
  simp at hv
  subst hv
  exact h1
 ·intro v' w' hown' hg _
  have hsz:=hown.1
  have hlt:=hown.lt
  have hB':Below B w0 w':=(hB.alloc (by omega) _).grown hg (by simp;omega) (fun k hk=>by have:=(hlt k hk).1;omega)
  have hb':b≤w'.heap.size:=by have:=hg.size;simp at this;omega
  rcases hown'.2 with ⟨_,h0⟩ | ⟨g,cap,cur,rfl,_⟩
  ·omega
  ·exact h _ _ _ ⟨hb',hown'⟩ hB'
theorem apn (E:ElT P t e z by_) {W w0:World} {b B:Nat} {A:Option Addr} {n c:Nat} {xs:List Value} (hown:Ow W b e A n c xs) (hB:Below B w0 W) (hBb:B≤b)
 {S:Option Addr} {m d:Nat} {news:List Value} (hr:Rd W S m news)
 (s x:Operand) (hgd:o.guard=none) (ho:o.op=.call { callee:=.builtin .append,args:=#[s,x],argTypes:=#[t,t] })
 (hs:a.eval s=.slice A n c) (hx:a.eval x=.slice S m d) (hS:S=none→m=0∧d=0) (h1:∀ u ∈ news,u.oneCell'=true) (hm:n+m≤maxLen) (hby:(n+m) * by_≤140737488355328)
 (h:∀ A' c' w',Ow w' b e A' (n+m) c' (xs++news)→Below B w0 w'→wpList P ops Q rest (a.put o.dst (.slice A' (n+m) c')) w') :
 wpList P ops Q (o :: rest) a W:=by
 obtain ⟨i,hi,hz,hsz,hbb⟩:=info_parts E.2.1
 rcases S with _ | ad
 ·obtain ⟨rfl,rfl⟩:=hS rfl
  have hn:news=[]:=List.eq_nil_of_length_eq_zero (by have:=hr.len;omega)
  subst hn
  refine wpList_append_own_none hgd s x t ho b e i 1 E.1 hi (.slice A n c) n xs hs hown.2 hx ?_
  have:=h A c W (by simpa using hown) hB
  simpa using this
 ·refine wpList_append_own _ hgd s x t ho b e i z 1 by_ E.1 hi hz hsz hbb (by rw [E.2.2];rfl) (by omega) (.slice A n c) n xs hs hown.2 ad m d news hx (by have:=hr.len;omega) ?_ h1 hm hby hown.1 ?_
  ·intro j v hj
   have hl:j<m:=by
    have:=hr.len
    have:=(List.getElem?_eq_some_iff.1 hj).1
    omega
   obtain ⟨ad',e',hc⟩:=hr.2 (by omega)
   cases e'
   exact hc j v hj
  ·intro v' w' hown' hg hnil
   have hsz:=hown.1
   have hlt:=hown.lt
   have hB':Below B w0 w':=hB.grown hg (by omega) (fun k hk=>by have:=(hlt k hk).1;omega)
   have hb':b≤w'.heap.size:=by have:=hg.size;omega
   rcases hown'.2 with ⟨rfl,h0⟩ | ⟨g,cap,cur,rfl,_⟩
   ·have e0:n+m=0:=h0
    have:=h none 0 w' ⟨hb',by rw [e0] at hown' ⊢;exact hown'⟩ hB'
    rw [e0] at this
    exact this
   ·exact h _ _ _ ⟨hb',hown'⟩ hB'
theorem mk (E:ElT P t e z by_) {W w0:World} {b B:Nat} (hB:Below B w0 W) (hBb:B≤b) (hb:b≤W.heap.size)
 (hgd:o.guard=none) (l c:Operand) (hop:o.op=Op.makeSlice t l c) (kl kc:IntKind) (L C:Int) (n k:Nat) (hl:a.eval l=.int kl L) (hc:a.eval c=.int kc C) (hL:L=(n:Int)) (hC:C=(k:Int))
 (hnk:n≤k) (b2:by_ * k≤281474976710656) (b3:k≤maxLen)
 (h:∀ w',Ow w' b e (some ⟨W.heap.size,0,none⟩) n k (List.replicate n z)→Below B w0 w'→wpList P ops Q rest (a.put o.dst (.slice (some ⟨W.heap.size,0,none⟩) n k)) w') :
 wpList P ops Q (o :: rest) a W:=by
 obtain ⟨i,hi,hz,hsz,hbb⟩:=info_parts E.2.1
 have b3':(k:Int)≤9223372036854775807:=by simp [maxLen] at b3;omega
 have b2':(i.bytes:Int) * (k:Int)≤281474976710656:=by
  have h:((i.bytes * k:Nat):Int)≤281474976710656:=by rw [hbb];omega
  rwa [Int.natCast_mul] at h
 have hr:=run_make (P:=P) W t e i z E.1 hi hz kl kc n k (by omega) (by omega) b2' b3'
 simp only [Int.toNat_natCast] at hr
 subst hL
 subst hC
 refine wpList_plain hgd fun K hK'=>?_
 unfold Oper.wp
 simp [execOp,hop,hl,hc,hr,Result.andThen]
 refine hK' _ _ (h _ ⟨by simp;omega,?_⟩ (hB.alloc (by omega) _))
 have hm:(madeCells z.cells (k * i.size)).toList=List.replicate k z:=by rw [hsz,Nat.mul_one,E.2.2];exact toList_madeCells_one z k
 refine ⟨by simp,.inr ⟨W.heap.size,k,_,rfl,hb,heap_alloc_new W _,hnk,b3,by rw [size_madeCells,hsz],?_⟩⟩
 rw [hm,List.take_replicate]
 congr 1
 omega
theorem cp (E:ElT P t e z by_) {W w0:World} {b B:Nat} {A:Option Addr} {n c:Nat} {xs:List Value} (hown:Ow W b e A n c xs) (hB:Below B w0 W) (hBb:B≤b)
 {S:Option Addr} {m k:Nat} {news:List Value} (hr:Rd W S m news) (hmn:m≤n)
 (d s:Operand) (hgd:o.guard=none) (ho:o.op=.call { callee:=.builtin .copy,args:=#[d,s],argTypes:=#[t,t] })
 (hd:a.eval d=.slice A n c) (hs:a.eval s=.slice S m k) (h1:∀ u ∈ news,u.oneCell'=true)
 (h:∀ w',Ow w' b e A n c (news++xs.drop m)→Below B w0 w'→wpList P ops Q rest (a.put o.dst (goInt m)) w') :
 wpList P ops Q (o :: rest) a W:=by
 obtain ⟨i,hi,hz,hsz,hbb⟩:=info_parts E.2.1
 have hsz':(P.info? e).map (·.size)=some 1:=by rw [hi];simp [hsz]
 rcases Nat.eq_zero_or_pos m with h0 | h0
 ·subst h0
  have hn:news=[]:=List.eq_nil_of_length_eq_zero hr.len
  subst hn
  refine wpList_copy_nothing hgd d s t t ho e E.1 hsz' A S n c 0 k hd hs (by simp) ?_
  exact h W (by simpa using hown) hB
 ·obtain ⟨g,rfl,hbg,hg⟩:=hown.form (by omega)
  obtain ⟨ad,rfl,hsrc⟩:=hr.2 h0
  rcases hown.2.2 with ⟨_,h'⟩ | ⟨g',cap,cur,e1,e2,e3,e4,e5,e6,e7⟩
  ·omega
  ·injection e1 with e1 _ ec
   injection e1 with e1
   injection e1 with e1
   subst e1
   subst ec
   have hlen:=hr.len
   simp only [Nat.mul_one] at e6 e7
   refine wpList_copy_splice hgd d s t t ho e E.1 hsz' _ _ n c m k hd hs g 0 cur.toList e (by simpa using e3) news (by rw [hlen];exact (Nat.min_eq_left hmn).symm)
    (fun _=>⟨rfl,ad,rfl,hsrc⟩) (by simp;omega) h1 B w0 hB (by omega) ?_
   intro w' hh hB'
   have hh':=hh.out
   have hsplice:(splice cur.toList 0 news).length=c:=by rw [length_splice _ _ _ (by simp;omega)];simpa using e6
   have hgl:g<w'.heap.size:=by
    rcases Nat.lt_or_ge g w'.heap.size with hlt | hge
    ·exact hlt
    ·rw [Array.getElem?_eq_none hge] at hh';cases hh'
   rw [hlen]
   refine h w' ⟨by omega,⟨?_,.inr ⟨g,c,_,rfl,e2,hh',e4,e5,by simpa using hsplice,?_⟩⟩⟩ hB'
   ·simp;have:=hown.len;omega
   ·have:(splice cur.toList 0 news)=news++cur.toList.drop m:=by simp [splice,hlen]
    simp only [this,Nat.mul_one]
    rw [List.take_append,hlen,List.take_of_length_le (by omega),← e7,List.take_drop]
    congr 3
    omega
end
def uval (l:List Int):Int:=l.foldl (fun a x=>a * 256+x) 0
def Bytes (l:List Int):Prop:=∀ i:Nat,0≤l[i]?.getD 0∧l[i]?.getD 0<256
theorem bytes_of_mem {l:List Int} (h:∀ x ∈ l,0≤x∧x<256):Bytes l:=by
 intro i
 cases hx:l[i]? with
 | none=>simp
 | some x=>simpa using h x (List.mem_of_getElem? hx)
theorem Bytes.mem {l:List Int} (h:Bytes l):∀ x ∈ l,0≤x∧x<256:=by
 intro x hx
 obtain ⟨i,hi,rfl⟩:=List.getElem_of_mem hx
 have:=h i
 simpa [List.getElem?_eq_getElem hi] using this
theorem Bytes.app {l m:List Int} (h:Bytes l) (h':Bytes m):Bytes (l++m):=bytes_of_mem fun x hx=>by
 rcases List.mem_append.1 hx with hx | hx
 ·exact h.mem x hx
 ·exact h'.mem x hx
theorem Bytes.take {l:List Int} (h:Bytes l) (k:Nat):Bytes (l.take k):=bytes_of_mem fun x hx=>h.mem x (List.mem_of_mem_take hx)
theorem Bytes.drop {l:List Int} (h:Bytes l) (k:Nat):Bytes (l.drop k):=bytes_of_mem fun x hx=>h.mem x (List.mem_of_mem_drop hx)
theorem uval_snoc (l:List Int) (x:Int):uval (l++[x])=uval l * 256+x:=by simp [uval]
theorem uval_bd (l:List Int) (h:Bytes l):0≤uval l∧uval l<256 ^ l.length:=by
 have key:∀ (l:List Int),(∀ x ∈ l,0≤x∧x<256)→∀ a k:Int,0≤a→a<k→0≤l.foldl (fun a x=>a * 256+x) a∧l.foldl (fun a x=>a * 256+x) a<k * 256 ^ l.length:=by
  intro l
  induction l with
  | nil=>intro _ a k h0 h1;simpa using ⟨h0,h1⟩
  | cons x l ih =>
    intro hx a k h0 h1
    have hxx:=hx x (by simp)
    have:=ih (fun y hy=>hx y (by simp [hy])) (a * 256+x) (k * 256) (by omega) (by omega)
    rw [List.foldl_cons,List.length_cons,Int.pow_succ,Int.mul_comm (256 ^ l.length) 256,← Int.mul_assoc]
    exact this
 have:=key l h.mem 0 1 (by omega) (by omega)
 simpa [uval] using this
theorem uval_bd8 (l:List Int) (h:Bytes l) (hl:l.length≤8):0≤uval l∧uval l<18446744073709551616:=by
 have h1:=uval_bd l h
 refine ⟨h1.1,Int.lt_of_lt_of_le h1.2 ?_⟩
 match l.length,hl with
 | 0,_=>decide
 | 1,_=>decide
 | 2,_=>decide
 | 3,_=>decide
 | 4,_=>decide
 | 5,_=>decide
 | 6,_=>decide
 | 7,_=>decide
 | 8,_=>decide
theorem uval_bd7 (l:List Int) (h:Bytes l) (hl:l.length≤7):0≤uval l∧uval l<72057594037927936:=by
 have h1:=uval_bd l h
 refine ⟨h1.1,Int.lt_of_lt_of_le h1.2 ?_⟩
 match l.length,hl with
 | 0,_=>decide
 | 1,_=>decide
 | 2,_=>decide
 | 3,_=>decide
 | 4,_=>decide
 | 5,_=>decide
 | 6,_=>decide
 | 7,_=>decide
def fld (l:List Int) (off k:Nat):List Int:=(l.drop off).take k
theorem fld_len (l:List Int) (off k:Nat) (h:off+k≤l.length):(fld l off k).length=k:=by simp [fld];omega
theorem fld_bytes {l:List Int} (h:Bytes l) (off k:Nat):Bytes (fld l off k):=(h.drop off).take k
theorem fld_step (l:List Int) (off k:Nat) (h:off+k<l.length):fld l off (k+1)=fld l off k++[l[off+k]?.getD 0]:=by
 unfold fld
 rw [List.take_succ_eq_append_getElem (by simp;omega)]
 simp [List.getElem?_eq_getElem h]
theorem fld_zero (l:List Int) (off:Nat):fld l off 0=[]:=by simp [fld]
theorem shl_or (u b:Int) (h0:0≤u) (h1:u<72057594037927936) (b0:0≤b) (b1:b<256) :
 bits .or .u64 (u * 256) b=u * 256+b:=by
 rw [u64_or _ _ (by omega) (by omega) (by omega) (by omega)]
 obtain ⟨x,rfl⟩:=Int.eq_ofNat_of_zero_le h0
 obtain ⟨y,rfl⟩:=Int.eq_ofNat_of_zero_le b0
 have e:((x:Int) * 256).toNat=x * 256:=by omega
 rw [e,Int.toNat_natCast,nat_join 8 (x * 256) y (by omega) (by omega)]
 omega
def be (k:Nat) (v:Int):List Int:=(List.range k).map fun i=>v / 2 ^ (8 * (k - 1 - i)) % 256
theorem be_len (k:Nat) (v:Int):(be k v).length=k:=by simp [be]
theorem be_step (k:Nat) (v:Int) (i:Nat) (h:i<k):(be k v).take (i+1)=(be k v).take i++[v / 2 ^ (8 * (k - 1 - i)) % 256]:=by
 rw [List.take_succ_eq_append_getElem (by simpa [be] using h)]
 simp [be]
theorem be_bytes (k:Nat) (v:Int):Bytes (be k v):=bytes_of_mem fun x hx=>by
 obtain ⟨i,_,rfl⟩:=List.mem_map.1 hx
 omega
theorem app_step (l:List Int) (k:Nat) (v:Int) (i:Nat) (h:i<k) :
 (l++(be k v).take i).map (Value.int .u8)++[.int .u8 (v / 2 ^ (8 * (k - 1 - i)) % 256)]=(l++(be k v).take (i+1)).map (Value.int .u8):=by
 rw [be_step k v i h];simp
theorem be_succ (k:Nat) (v:Int):be (k+1) v=be k (v / 256)++[v % 256]:=by
 unfold be
 rw [List.range_succ,List.map_append]
 congr 1
 ·apply List.map_congr_left
  intro i hi
  have hi':i<k:=by simpa using hi
  have e:8 * (k+1 - 1 - i)=8+8 * (k - 1 - i):=by omega
  rw [e,Int.pow_add,← Int.ediv_ediv_of_nonneg (by decide)]
  rfl
 ·simp
theorem uval_be (k:Nat):∀ v:Int,uval (be k v)=v % 256 ^ k:=by
 induction k with
 | zero=>intro v;simp [be,uval,Int.emod_one]
 | succ k ih =>
   intro v
   rw [be_succ,uval_snoc,ih,Int.pow_succ]
   have hp:(0:Int)<256 ^ k:=Int.pow_pos (by decide)
   generalize (256:Int) ^ k=p at hp
   have h2:=Int.emod_add_mul_ediv (v / 256) p
   have q0:=Int.emod_nonneg (v / 256) (Int.ne_of_gt hp)
   have q1:=Int.emod_lt_of_pos (v / 256) hp
   have h3:256 * p * (v / 256 / p)=256 * (p * (v / 256 / p)):=Int.mul_assoc _ _ _
   have hv:v=(v / 256 % p * 256+v % 256)+(256 * p) * (v / 256 / p):=by omega
   have e:v % (256 * p)=(v / 256 % p * 256+v % 256) % (256 * p):=by
    have:=Int.add_mul_emod_self_left (v / 256 % p * 256+v % 256) (256 * p) (v / 256 / p)
    rw [← hv] at this
    exact this
   rw [Int.mul_comm p 256,e]
   exact (Int.emod_eq_of_lt (by omega) (by omega)).symm
theorem oneCells (k:IntKind) (l:List Int):∀ u ∈ l.map (Value.int k),u.oneCell'=true:=by
 intro u hu
 obtain ⟨x,_,rfl⟩:=List.mem_map.1 hu
 rfl
theorem map_at (k:IntKind) (l:List Int) (i:Nat) (h:i<l.length):(l.map (Value.int k))[i]?=some (.int k (l[i]?.getD 0)):=by
 simp [List.getElem?_eq_getElem h]
theorem Rd.int {w:World} {A:Option Addr} {n:Nat} {k:IntKind} {l:List Int} (h:Rd w A n (l.map (Value.int k))) {i:Nat} (hi:i<n):∃ ad,A=some ad∧w.cell? (ad.add i)=some (.int k (l[i]?.getD 0)):=by
 obtain ⟨ad,v,e,hv,hc⟩:=h.at_ hi
 have hl:i<l.length:=by have:=h.len;simp at this;omega
 rw [map_at k l i hl] at hv
 injection hv with hv
 exact ⟨ad,e,by rw [hv];exact hc⟩
theorem Rd.lit (w:World) (e:TypeId) (xs:List Value):Rd (w.alloc (.cells xs.toArray e)) (some ⟨w.heap.size,0,none⟩) xs.length xs:=by
 refine ⟨rfl,fun _=>⟨_,rfl,fun i v hi=>?_⟩⟩
 rw [addr_flat,Nat.zero_add,cell_of_row _ w.heap.size i xs.toArray e (0,0) (heap_alloc_new w _)]
 simpa using hi
theorem Rd.ints (w:World) (e:TypeId) (k:IntKind) (l:List Int) (n:Nat) {g:Nat} (hn:l.length=n) (hg:w.heap.size=g):Rd (w.alloc (.cells (l.map (Value.int k)).toArray e)) (some ⟨g,0,none⟩) n (l.map (Value.int k)):=by
 subst hn
 subst hg
 have:=Rd.lit w e (l.map (Value.int k))
 rw [List.length_map] at this
 exact this
theorem fld_one (l:List Int) (i:Nat) (h:i<l.length):uval (fld l i 1)=l[i]?.getD 0:=by
 have:=fld_step l i 0 (by omega)
 rw [this,fld_zero]
 simp [uval]
theorem map_set (k:IntKind) (l:List Int) (j:Nat) (x:Int):(l.map (Value.int k)).set j (.int k x)=(l.set j x).map (Value.int k):=by rw [List.map_set]
theorem Bytes.set {l:List Int} (h:Bytes l) (j:Nat) {x:Int} (h0:0≤x) (h1:x<256):Bytes (l.set j x):=bytes_of_mem fun y hy=>by
 rcases List.mem_or_eq_of_mem_set hy with hy | rfl
 ·exact h.mem y hy
 ·exact ⟨h0,h1⟩
def Fe (l:List Int) (n:Nat) (off k v:Int) (b:Bool):Prop:=(b=true∧0≤off∧off+k≤n∧uval (fld l off.toNat k.toNat)=v)∨(b=false∧(off<0∨(n:Int)<off+k)∧v=0)
theorem Fe.yes {l:List Int} {n:Nat} {off k v:Int} {b:Bool} (h:Fe l n off k v b) (hb:b=true):0≤off∧off+k≤n∧uval (fld l off.toNat k.toNat)=v:=by
 rcases h with ⟨_,h⟩ | ⟨h,_⟩
 ·exact h
 ·rw [hb] at h;cases h
theorem Fe.no {l:List Int} {n:Nat} {off k v:Int} {b:Bool} (h:Fe l n off k v b) (hb:b=false):(off<0∨(n:Int)<off+k)∧v=0:=by
 rcases h with ⟨h,_⟩ | ⟨_,h⟩
 ·rw [hb] at h;cases h
 ·exact h
def sgn (k u:Int):Int :=
 if k=1 then (if u % 256<128 then u % 256 else u % 256 - 256)
 else if k=4 then (if u % 4294967296<2147483648 then u % 4294967296 else u % 4294967296 - 4294967296)
 else (if u % 18446744073709551616<9223372036854775808 then u % 18446744073709551616 else u % 18446744073709551616 - 18446744073709551616)
def fitsB (k v:Int):Bool:=decide (k=8∨(k=4∧-2147483648≤v∧v<2147483648)∨(k=1∧-128≤v∧v<128))
def oB (A:Option Addr):Option Nat:=A.map (·.block)
theorem oB_own (A:Option Addr) (n c:Nat):(Value.slice A n c).ownBlock=oB A:=by cases A <;> rfl
def Dj (A A2:Option Addr):Prop:=∀ g,oB A=some g→oB A2≠some g
theorem Dj.symm {A A2:Option Addr} (h:Dj A A2):Dj A2 A:=fun g h1 h2=>h g h2 h1
structure Gw (W w':World) (A A':Option Addr):Prop where
 g:W.grownBy w' (oB A)
 at_:oB A'=oB A∨oB A'=some W.heap.size
section
variable {W w':World} {A A' A2:Option Addr} {b n c:Nat} {e:TypeId} {xs:List Value}
theorem Ow.blk (h:Ow W b e A n c xs) {g:Nat} (hg:oB A=some g):b≤g∧g<W.heap.size:=h.lt g (by rw [oB_own];exact hg)
theorem Gw.size (h:Gw W w' A A'):W.heap.size≤w'.heap.size:=h.g.size
theorem Gw.cell (h:Gw W w' A A') {p:Addr} {v:Value} (hc:W.cell? p=some v) (hd:oB A≠some p.block):w'.cell? p=some v:=h.g.cell hc (fun h'=>hd h'.symm)
theorem Gw.rd (h:Gw W w' A A') (hr:Rd W A2 n xs) (hd:Dj A2 A):Rd w' A2 n xs :=
 ⟨hr.1,fun hn=>by
  obtain ⟨ad,e,hc⟩:=hr.2 hn
  subst e
  exact ⟨ad,rfl,fun i v hi=>h.cell (hc i v hi) (by rw [addr_block];exact fun h'=>hd ad.block rfl h')⟩⟩
theorem Gw.bx (h:Gw W w' A A') {g:Nat} {vs:List Value} (hb:Bx W g vs) (hd:oB A≠some g):Bx w' g vs:=hb.grown h.g (fun h'=>hd h'.symm)
end
section
variable {P:Program} {t e:TypeId} {z:Value} {by_:Nat} {ops:Array Oper} {rest:List Oper} {o:Oper} {a:Act} {Q:Exit→Act→World→Prop}
theorem apA (E:ElT P t e z by_) {W w0:World} {b B:Nat} {A:Option Addr} {n c:Nat} {xs:List Value} (hown:Ow W b e A n c xs) (hB:Below B w0 W) (hBb:B≤b)
 {S:Option Addr} {m d:Nat} {news:List Value} (hr:Rd W S m news)
 (s x:Operand) (hgd:o.guard=none) (ho:o.op=.call { callee:=.builtin .append,args:=#[s,x],argTypes:=#[t,t] })
 (hs:a.eval s=.slice A n c) (hx:a.eval x=.slice S m d) (hS:S=none→m=0∧d=0) (h1:∀ u ∈ news,u.oneCell'=true) (hm:n+m≤maxLen) (hby:(n+m) * by_≤140737488355328)
 (h:∀ A' c' w',Ow w' b e A' (n+m) c' (xs++news)→Below B w0 w'→Gw W w' A A'→wpList P ops Q rest (a.put o.dst (.slice A' (n+m) c')) w') :
 wpList P ops Q (o :: rest) a W:=by
 obtain ⟨i,hi,hz,hsz,hbb⟩:=info_parts E.2.1
 rcases S with _ | ad
 ·obtain ⟨rfl,rfl⟩:=hS rfl
  have hn:news=[]:=List.eq_nil_of_length_eq_zero (by have:=hr.len;omega)
  subst hn
  refine wpList_append_own_none hgd s x t ho b e i 1 E.1 hi (.slice A n c) n xs hs hown.2 hx ?_
  have:=h A c W (by simpa using hown) hB ⟨⟨rfl,rfl,rfl,Nat.le_refl _,fun _ _ _=>rfl⟩,.inl rfl⟩
  simpa using this
 ·refine wpList_append_own_at (w:=W) hgd s x t ho b e i z 1 by_ E.1 hi hz hsz hbb (by rw [E.2.2];rfl) (by omega) (.slice A n c) n xs hs hown.2 ad m d news hx (by have:=hr.len;omega) ?_ h1 hm hby hown.1 ?_
  ·intro j v hj
   have hl:j<m:=by
    have:=hr.len
    have:=(List.getElem?_eq_some_iff.1 hj).1
    omega
   obtain ⟨ad',e',hc⟩:=hr.2 (by omega)
   cases e'
   exact hc j v hj
  ·intro v' w' hown' hg hnil hat
   rw [oB_own] at hg hat
   have hsz:=hown.1
   have hB':Below B w0 w':=hB.grown hg (by omega) (fun k hk=>by have:=(hown.blk hk).1;omega)
   have hb':b≤w'.heap.size:=by have:=hg.size;omega
   rcases hown'.2 with ⟨rfl,h0⟩ | ⟨g,cap,cur,rfl,_⟩
   ·have e0:n+m=0:=h0
    have:=h none 0 w' ⟨hb',by rw [e0] at hown' ⊢;exact hown'⟩ hB' ⟨hg,hat⟩
    rw [e0] at this
    exact this
   ·exact h _ _ _ ⟨hb',hown'⟩ hB' ⟨hg,hat⟩
theorem step_apA (E:ElT P t e z by_) {EE:Prop} {K:Act→World→Prop} {W w0:World} {b B:Nat} {A:Option Addr} {n c:Nat} {xs:List Value} (hown:Ow W b e A n c xs) (hB:Below B w0 W) (hBb:B≤b)
 {S:Option Addr} {m d:Nat} {news:List Value} (hr:Rd W S m news)
 (s x:Operand) (hgd:o.guard=none) (ho:o.op=.call { callee:=.builtin .append,args:=#[s,x],argTypes:=#[t,t] })
 (hs:a.eval s=.slice A n c) (hx:a.eval x=.slice S m d) (hS:S=none→m=0∧d=0) (h1:∀ u ∈ news,u.oneCell'=true) (hm:n+m≤maxLen) (hby:(n+m) * by_≤140737488355328)
 (h:∀ A' c' w',Ow w' b e A' (n+m) c' (xs++news)→Below B w0 w'→W.grownBy w' (oB A)→K (a.put o.dst (.slice A' (n+m) c')) w') :
 if Region.wanted o (yielded ops a.tmps)=true then Oper.wp P o a W K Q else EE:=by
 obtain ⟨i,hi,hz,hsz,hbb⟩:=info_parts E.2.1
 have hw:Region.wanted o (yielded ops a.tmps)=true:=by simp [Region.wanted,hgd]
 rw [if_pos hw]
 rcases S with _ | ad
 ·obtain ⟨rfl,rfl⟩:=hS rfl
  have hn:news=[]:=List.eq_nil_of_length_eq_zero (by have:=hr.len;omega)
  subst hn
  have hrun:=run_append_owned_none (P:=P) (w:=W) b t o.type e i 1 E.1 hi (.slice A n c) n xs hown.2
  unfold Oper.wp
  simp [execOp,ho,resolve,invoke,builtin,hs,hx,hrun,Result.andThen]
  have key:=h A c W (by simpa using hown) hB ⟨rfl,rfl,rfl,Nat.le_refl _,fun _ _ _=>rfl⟩
  rw [Nat.add_zero] at key
  exact key
 ·obtain ⟨v',w',hrun,hown',hg,hnil⟩:=run_append_own (P:=P) W b t o.type e i z 1 by_ E.1 hi hz hsz hbb (by rw [E.2.2];rfl) (by omega) (.slice A n c) n xs hown.2 ad m d news (by have:=hr.len;omega)
   (fun j v hj=>by
     have hl:j<m:=by
      have:=hr.len
      have:=(List.getElem?_eq_some_iff.1 hj).1
      omega
     obtain ⟨ad',e',hc⟩:=hr.2 (by omega)
     cases e'
     exact hc j v hj) h1 hm hby hown.1
  rw [oB_own] at hg
  have hsz':=hown.1
  have hB':Below B w0 w':=hB.grown hg (by omega) (fun k hk=>by have:=(hown.blk hk).1;omega)
  have hb':b≤w'.heap.size:=by have:=hg.size;omega
  unfold Oper.wp
  simp [execOp,ho,resolve,invoke,builtin,hs,hx,hrun,Result.andThen]
  rcases hown'.2 with ⟨rfl,h0⟩ | ⟨g,cap,cur,rfl,_⟩
  ·have e0:n+m=0:=h0
   have:=h none 0 w' ⟨hb',by rw [e0] at hown' ⊢;exact hown'⟩ hB' hg
   rw [e0] at this
   exact this
  ·exact h _ _ _ ⟨hb',hown'⟩ hB' hg
theorem ap1A (E:ElT P t e z by_) {W w0:World} {b B:Nat} {A:Option Addr} {n c:Nat} {xs:List Value} (hown:Ow W b e A n c xs) (hB:Below B w0 W) (hBb:B≤b)
 (s x:Operand) (u:Value) (hgd:o.guard=none) (ho:o.op=.call { callee:=.builtin .append,args:=#[s,x],argTypes:=#[t,t] })
 (hs:a.eval s=.slice A n c) (hx:a.eval x=.slice (some ⟨W.heap.size,0,none⟩) 1 1) (h1:u.oneCell'=true) (hm:n+1≤maxLen) (hby:(n+1) * by_≤140737488355328)
 (h:∀ A' c' w',Ow w' b e A' (n+1) c' (xs++[u])→Below B w0 w'→Gw (W.alloc (.cells #[u] e)) w' A A'→wpList P ops Q rest (a.put o.dst (.slice A' (n+1) c')) w') :
 wpList P ops Q (o :: rest) a (W.alloc (.cells #[u] e)):=by
 refine apA E (hown.alloc (.cells #[u] e)) (hB.alloc (by have:=hown.1;omega) _) hBb (S:=some ⟨W.heap.size,0,none⟩) (m:=1) (d:=1) (news:=[u]) ?_ s x hgd ho hs hx (fun h=>by cases h) (by simpa using h1) hm hby h
 refine ⟨rfl,fun _=>⟨_,rfl,fun i v hi=>?_⟩⟩
 match i,hi with
 | 0,hi =>
   simp at hi
   subst hi
   simp [Addr.add]
end
section
variable {α β:Type} {f:α→List β} {K:Nat}
theorem fm_len (h:∀ a,(f a).length=K):∀ ts:List α,(ts.flatMap f).length=ts.length * K
 | []=>by simp
 | a :: t=>by
   have:=fm_len h t
   rw [List.flatMap_cons,List.length_append,h,this,List.length_cons,Nat.add_mul]
   omega
theorem fm_drop (h:∀ a,(f a).length=K) (ts:List α) (i:Nat):(ts.flatMap f).drop (i * K)=(ts.drop i).flatMap f:=by
 induction i generalizing ts with
 | zero=>simp
 | succ i ih =>
   cases ts with
   | nil=>simp
   | cons a t =>
     rw [List.drop_succ_cons,List.flatMap_cons,← ih t,Nat.add_mul,Nat.one_mul,Nat.add_comm,← List.drop_drop,List.drop_append_of_le_length (by rw [h];omega),show (f a).drop K=[] from List.drop_of_length_le (by rw [h];omega),List.nil_append]
theorem fm_get (h:∀ a,(f a).length=K) (ts:List α) (i j:Nat) (a:α) (hi:ts[i]?=some a) (hj:j<K):(ts.flatMap f)[i * K+j]?=(f a)[j]?:=by
 have hl:=(List.getElem?_eq_some_iff.1 hi).1
 have e:ts.drop i=a :: ts.drop (i+1):=by
  rw [List.drop_eq_getElem_cons hl]
  rw [List.getElem?_eq_getElem hl] at hi
  injection hi with hi
  rw [hi]
 rw [← List.getElem?_drop,fm_drop h,e,List.flatMap_cons,List.getElem?_append_left (by rw [h];exact hj)]
theorem fm_step (ts:List α) (i:Nat) (a:α) (hi:ts[i]?=some a):(ts.take (i+1)).flatMap f=(ts.take i).flatMap f++f a:=by
 have hl:=(List.getElem?_eq_some_iff.1 hi).1
 rw [List.getElem?_eq_getElem hl] at hi
 injection hi with hi
 rw [List.take_succ_eq_append_getElem hl,List.flatMap_append,hi]
 simp
end
def u64 (v:Int):Int:=v % 18446744073709551616
theorem u64_bd (v:Int):0≤u64 v∧u64 v<18446744073709551616:=by unfold u64;omega
def tAt (k:Nat) (l:List Int) (i:Nat):Int:=sgn k (uval (fld l (i * k) k))
def dT (k:Nat) (l:List Int) (m:Nat):List Int:=(List.range m).map (tAt k l)
def eT (k:Nat) (ts:List Int):List Int:=ts.flatMap fun v=>be k (u64 v)
def fT (k:Nat) (ts:List Int):Bool:=ts.all fun v=>fitsB k v
theorem dT_len (k:Nat) (l:List Int) (m:Nat):(dT k l m).length=m:=by simp [dT]
theorem dT_step (k:Nat) (l:List Int) (m:Nat):dT k l (m+1)=dT k l m++[tAt k l m]:=by simp [dT,List.range_succ]
theorem eT_len (k:Nat) (ts:List Int):(eT k ts).length=k * ts.length:=by
 induction ts with
 | nil=>simp [eT]
 | cons v t ih =>
   have:(eT k (v :: t)).length=(be k (u64 v)).length+(eT k t).length:=by simp [eT]
   rw [this,ih,be_len,List.length_cons,Nat.mul_add]
   omega
theorem eT_app (k:Nat) (a b:List Int):eT k (a++b)=eT k a++eT k b:=by simp [eT]
theorem eT_cons (k:Nat) (v:Int) (t:List Int):eT k (v :: t)=be k (u64 v)++eT k t:=by simp [eT]
theorem eT_one (k:Nat) (v:Int):eT k [v]=be k (u64 v):=by simp [eT]
theorem eT_bytes (k:Nat) (ts:List Int):Bytes (eT k ts):=bytes_of_mem fun x hx=>by
 unfold eT at hx
 obtain ⟨v,_,hv⟩:=List.mem_flatMap.1 hx
 exact (be_bytes k (u64 v)).mem x hv
theorem eT_step (k:Nat) (ts:List Int) (i:Nat) (h:i<ts.length):eT k (ts.take (i+1))=eT k (ts.take i)++be k (u64 (ts[i]?.getD 0)):=by
 rw [List.take_succ_eq_append_getElem h,eT_app,eT_one,List.getElem?_eq_getElem h]
 rfl
theorem sgn_u64 {k:Nat} (hk:k=4∨k=8) (v:Int) (h0:-9223372036854775808≤v) (h1:v<9223372036854775808):sgn k (uval (be k (u64 v)))=v ↔ fitsB k v=true:=by
 rw [uval_be]
 unfold u64 sgn fitsB
 rcases hk with rfl | rfl
 ·simp
  omega
 ·simp
  omega
theorem sgn_bd {k:Nat} (hk:k=4∨k=8) (u:Int) (h0:0≤u) (h1:u<256 ^ k):fitsB k (sgn k u)=true∧-9223372036854775808≤sgn k u∧sgn k u<9223372036854775808:=by
 unfold sgn fitsB
 rcases hk with rfl | rfl
 ·simp at h1 ⊢
  omega
 ·simp at h1 ⊢
  omega
theorem fld_at (k:Nat) (ts:List Int) (i:Nat) (h:i<ts.length):fld (eT k ts) (i * k) k=be k (u64 (ts[i]?.getD 0)):=by
 have e:ts=ts.take i++ts[i] :: ts.drop (i+1):=by rw [← List.drop_eq_getElem_cons h,List.take_append_drop]
 have hlen:(eT k (ts.take i)).length=i * k:=by rw [eT_len,List.length_take,Nat.min_eq_left (by omega),Nat.mul_comm]
 have e2:eT k ts=eT k (ts.take i)++(be k (u64 ts[i])++eT k (ts.drop (i+1))):=by
  have:=congrArg (eT k) e
  rwa [eT_app,eT_cons] at this
 unfold fld
 rw [e2,List.drop_append_of_le_length (by omega),List.drop_of_length_le (by omega),List.nil_append,List.take_append_of_le_length (by rw [be_len];omega),List.take_of_length_le (by rw [be_len];omega),List.getElem?_eq_getElem h]
 rfl
theorem dT_eT {k:Nat} (hk:k=4∨k=8) (ts:List Int) (h:∀ v ∈ ts,-9223372036854775808≤v∧v<9223372036854775808):dT k (eT k ts) ts.length=ts ↔ fT k ts=true:=by
 unfold fT
 rw [List.all_eq_true]
 constructor
 ·intro e v hv
  obtain ⟨i,hi,rfl⟩:=List.getElem_of_mem hv
  have e1:(dT k (eT k ts) ts.length)[i]?=ts[i]?:=by rw [e]
  rw [List.getElem?_eq_getElem (by rw [dT_len];exact hi),List.getElem?_eq_getElem hi] at e1
  injection e1 with e1
  have e2:tAt k (eT k ts) i=ts[i]:=by rw [← e1];simp [dT]
  unfold tAt at e2
  rw [fld_at k ts i hi,List.getElem?_eq_getElem hi] at e2
  exact (sgn_u64 hk _ (h _ hv).1 (h _ hv).2).1 e2
 ·intro hf
  apply List.ext_getElem (dT_len _ _ _)
  intro i h1 h2
  have:tAt k (eT k ts) i=ts[i]:=by
   unfold tAt
   rw [fld_at k ts i h2,List.getElem?_eq_getElem h2]
   have hv:=List.getElem_mem h2
   exact (sgn_u64 hk _ (h _ hv).1 (h _ hv).2).2 (hf _ hv)
  simpa [dT] using this
theorem dT_bd {k:Nat} (hk:k=4∨k=8) (l:List Int) (hl:Bytes l) (m:Nat) (h:m * k≤l.length):fT k (dT k l m)=true∧∀ v ∈ dT k l m,-9223372036854775808≤v∧v<9223372036854775808:=by
 have key:∀ v ∈ dT k l m,fitsB k v=true∧-9223372036854775808≤v∧v<9223372036854775808:=by
  intro v hv
  unfold dT at hv
  obtain ⟨i,hi,rfl⟩:=List.mem_map.1 hv
  have him:i<m:=List.mem_range.1 hi
  have hz:i * k+k≤l.length:=by
   have:=Nat.mul_le_mul_right k (show i+1≤m by omega)
   rw [Nat.add_mul,Nat.one_mul] at this
   omega
  have hb:=uval_bd _ (fld_bytes hl (i * k) k)
  rw [fld_len _ _ _ hz] at hb
  exact sgn_bd hk _ hb.1 hb.2
 exact ⟨by unfold fT;rw [List.all_eq_true];exact fun v hv=>(key v hv).1,fun v hv=>(key v hv).2⟩
theorem fT_8 (ts:List Int):fT 8 ts=true:=by unfold fT fitsB;rw [List.all_eq_true];intro v _;simp
def dsF:Nat→List Int→Int
 | i,a :: b :: t=>if b≤a then (i:Int) else dsF (i+1) (b :: t)
 | _,_=>-1
def desc (ts:List Int):Int:=dsF 1 ts
def Asc (ts:List Int):Prop:=∀ i,i+1<ts.length→ts[i]?.getD 0<ts[i+1]?.getD 0
theorem dsF_spec:∀ (ts:List Int) (i:Nat),(dsF i ts=-1∧Asc ts)∨(∃ j,dsF i ts=(i+j:Nat)∧j+1<ts.length∧ts[j+1]?.getD 0≤ts[j]?.getD 0∧∀ q,q<j→ts[q]?.getD 0<ts[q+1]?.getD 0)
 | [],i=>.inl ⟨rfl,fun j h=>by simp at h⟩
 | [a],i=>.inl ⟨rfl,fun j h=>by simp at h⟩
 | a :: b :: t,i=>by
   unfold dsF
   by_cases h:b≤a
   ·rw [if_pos h]
    exact .inr ⟨0,rfl,by simp,by simpa using h,fun q hq=>by omega⟩
   ·rw [if_neg h]
    rcases dsF_spec (b :: t) (i+1) with ⟨e,ha⟩ | ⟨j,e,hj,hd,ha⟩
    ·refine .inl ⟨e,fun q hq=>?_⟩
     cases q with
     | zero=>simp;omega
     | succ q=>simpa using ha q (by simpa using hq)
    ·refine .inr ⟨j+1,by rw [e];congr 1;omega,by simpa using hj,by simpa using hd,fun q hq=>?_⟩
     cases q with
     | zero=>simp;omega
     | succ q=>simpa using ha q (by omega)
theorem desc_spec (ts:List Int):(desc ts=-1∧Asc ts)∨(∃ j:Nat,desc ts=((j+1:Nat):Int)∧j+1<ts.length∧ts[j+1]?.getD 0≤ts[j]?.getD 0∧∀ q,q<j→ts[q]?.getD 0<ts[q+1]?.getD 0):=by
 rcases dsF_spec ts 1 with h | ⟨j,e,h⟩
 ·exact .inl h
 ·exact .inr ⟨j,by unfold desc;rw [e,Nat.add_comm],h⟩
theorem desc_asc {ts:List Int} (h:Asc ts):desc ts=-1:=by
 rcases desc_spec ts with ⟨e,_⟩ | ⟨j,_,hj,hd,_⟩
 ·exact e
 ·have:=h j hj
  omega
theorem desc_at {ts:List Int} {j:Nat} (hj:j+1<ts.length) (hd:ts[j+1]?.getD 0≤ts[j]?.getD 0) (ha:∀ q,q<j→ts[q]?.getD 0<ts[q+1]?.getD 0):desc ts=((j+1:Nat):Int):=by
 rcases desc_spec ts with ⟨_,h⟩ | ⟨i,e,hi,hd',ha'⟩
 ·have:=h j hj
  omega
 ·rcases Nat.lt_trichotomy i j with h | rfl | h
  ·have:=ha i h;omega
  ·exact e
  ·have:=ha' j h;omega
abbrev LP:=Int × Int
def lpOk (t:LP):Prop:=-9223372036854775808≤t.1∧t.1<9223372036854775808∧-2147483648≤t.2∧t.2<2147483648
def lc (t:LP):List Value:=[.int .i64 t.1,.int .i32 t.2]
def lcs (ts:List LP):List Value:=ts.flatMap lc
theorem lc_len (t:LP):(lc t).length=2:=rfl
theorem lcs_len (ts:List LP):(lcs ts).length=ts.length * 2:=fm_len lc_len ts
theorem lcs_get {ts:List LP} {i:Nat} {t:LP} (h:ts[i]?=some t):(lcs ts)[i * 2]?=some (.int .i64 t.1)∧(lcs ts)[i * 2+1]?=some (.int .i32 t.2) :=
 ⟨fm_get lc_len ts i 0 t h (by omega),fm_get lc_len ts i 1 t h (by omega)⟩
theorem lcs_app (a b:List LP):lcs (a++b)=lcs a++lcs b:=List.flatMap_append
theorem lcs_one (t:LP):lcs [t]=lc t:=by simp [lcs]
def eL (k:Nat) (t:LP):List Int:=be k (u64 t.1)++be 4 (u64 t.2)
def eLP (k:Nat) (ts:List LP):List Int:=ts.flatMap (eL k)
theorem eL_len (k:Nat) (t:LP):(eL k t).length=k+4:=by simp [eL,be_len]
theorem eLP_len (k:Nat) (ts:List LP):(eLP k ts).length=ts.length * (k+4):=fm_len (eL_len k) ts
theorem eLP_step (k:Nat) (ts:List LP) (i:Nat) (t:LP) (h:ts[i]?=some t):eLP k (ts.take (i+1))=eLP k (ts.take i)++be k (u64 t.1)++be 4 (u64 t.2):=by
 rw [show eLP k (ts.take (i+1))=eLP k (ts.take i)++eL k t from fm_step ts i t h,List.append_assoc]
 rfl
theorem eLP_bytes (k:Nat) (ts:List LP):Bytes (eLP k ts):=bytes_of_mem fun x hx=>by
 obtain ⟨t,_,hv⟩:=List.mem_flatMap.1 hx
 exact ((be_bytes k _).app (be_bytes 4 _)).mem x hv
def dL (k:Nat) (l:List Int) (i:Nat):LP:=(sgn k (uval (fld l (i * (k+4)) k)),sgn 4 (uval (fld l (i * (k+4)+k) 4)))
def dLP (k:Nat) (l:List Int) (m:Nat):List LP:=(List.range m).map (dL k l)
def lfit (k:Nat) (ts:List LP):Bool:=ts.all fun t=>fitsB k t.1
theorem dLP_len (k:Nat) (l:List Int) (m:Nat):(dLP k l m).length=m:=by simp [dLP]
theorem dLP_step (k:Nat) (l:List Int) (m:Nat):dLP k l (m+1)=dLP k l m++[dL k l m]:=by simp [dLP,List.range_succ]
theorem drop_at {α:Type} {ts:List α} {i:Nat} {t:α} (h:ts[i]?=some t):ts.drop i=t :: ts.drop (i+1):=by
 have hl:=(List.getElem?_eq_some_iff.1 h).1
 rw [List.drop_eq_getElem_cons hl]
 rw [List.getElem?_eq_getElem hl] at h
 injection h with h
 rw [h]
theorem fld_a (k:Nat) {ts:List LP} {i:Nat} {t:LP} (h:ts[i]?=some t):fld (eLP k ts) (i * (k+4)) k=be k (u64 t.1):=by
 unfold fld
 rw [show (eLP k ts).drop (i * (k+4))=eLP k (ts.drop i) from fm_drop (eL_len k) ts i,drop_at h]
 unfold eLP
 rw [List.flatMap_cons]
 unfold eL
 rw [List.append_assoc,List.take_append_of_le_length (by rw [be_len];omega),List.take_of_length_le (by rw [be_len];omega)]
theorem fld_b (k:Nat) {ts:List LP} {i:Nat} {t:LP} (h:ts[i]?=some t):fld (eLP k ts) (i * (k+4)+k) 4=be 4 (u64 t.2):=by
 unfold fld
 rw [← List.drop_drop,show (eLP k ts).drop (i * (k+4))=eLP k (ts.drop i) from fm_drop (eL_len k) ts i,drop_at h]
 unfold eLP
 rw [List.flatMap_cons]
 unfold eL
 rw [List.append_assoc,List.drop_left' (be_len k _),List.take_append_of_le_length (by rw [be_len];omega),List.take_of_length_le (by rw [be_len];omega)]
theorem dL_e {k:Nat} (hk:k=4∨k=8) {ts:List LP} {i:Nat} {t:LP} (h:ts[i]?=some t) (ht:lpOk t):dL k (eLP k ts) i=t ↔ fitsB k t.1=true:=by
 obtain ⟨o0,o1,x0,x1⟩:=ht
 have h2:sgn 4 (uval (be 4 (u64 t.2)))=t.2:=(sgn_u64 (k:=4) (.inl rfl) t.2 (by omega) (by omega)).2 (by unfold fitsB;simp;omega)
 rw [← sgn_u64 hk t.1 o0 o1]
 unfold dL
 rw [fld_a k h,fld_b k h,h2]
 obtain ⟨a,c⟩:=t
 simp
theorem dLP_e {k:Nat} (hk:k=4∨k=8) {ts:List LP} (h:∀ t ∈ ts,lpOk t):dLP k (eLP k ts) ts.length=ts ↔ lfit k ts=true:=by
 unfold lfit
 rw [List.all_eq_true]
 constructor
 ·intro e v hv
  obtain ⟨i,hi,rfl⟩:=List.getElem_of_mem hv
  have e1:(dLP k (eLP k ts) ts.length)[i]?=ts[i]?:=by rw [e]
  rw [List.getElem?_eq_getElem (by rw [dLP_len];exact hi),List.getElem?_eq_getElem hi] at e1
  injection e1 with e1
  have e2:dL k (eLP k ts) i=ts[i]:=by rw [← e1];simp [dLP]
  exact (dL_e hk (List.getElem?_eq_getElem hi) (h _ hv)).1 e2
 ·intro hf
  apply List.ext_getElem (dLP_len _ _ _)
  intro i h1 h2
  have hv:=List.getElem_mem h2
  have:=(dL_e hk (List.getElem?_eq_getElem h2) (h _ hv)).2 (hf _ hv)
  simpa [dLP] using this
theorem dL_ok {k:Nat} (hk:k=4∨k=8) (l:List Int) (hl:Bytes l) (i:Nat) (h:i * (k+4)+(k+4)≤l.length):lpOk (dL k l i)∧fitsB k (dL k l i).1=true:=by
 have a:=uval_bd _ (fld_bytes hl (i * (k+4)) k)
 rw [fld_len _ _ _ (by omega)] at a
 have b:=uval_bd _ (fld_bytes hl (i * (k+4)+k) 4)
 rw [fld_len _ _ _ (by omega)] at b
 have ha:=sgn_bd hk _ a.1 a.2
 have hb:=(sgn_bd (k:=4) (.inl rfl) _ b.1 b.2).1
 unfold fitsB at hb
 simp at hb
 exact ⟨⟨ha.2.1,ha.2.2,hb.1,hb.2⟩,ha.1⟩
theorem dLP_ok {k:Nat} (hk:k=4∨k=8) (l:List Int) (hl:Bytes l) (m:Nat) (h:m * (k+4)≤l.length):∀ t ∈ dLP k l m,lpOk t∧fitsB k t.1=true:=by
 intro t ht
 obtain ⟨i,hi,rfl⟩:=List.mem_map.1 ht
 refine dL_ok hk l hl i (Nat.le_trans ?_ h)
 have:=Nat.mul_le_mul_right (k+4) (show i+1≤m by have:=List.mem_range.1 hi;omega)
 rwa [Nat.add_mul,Nat.one_mul] at this
def la (ts:List LP) (i:Nat):Int:=(ts[i]?.getD (0,0)).1
def lr (ts:List LP) (i:Nat):Int:=(ts[i]?.getD (0,0)).2
def okL (ts:List LP) (four:Bool):Nat→Bool
 | 0=>decide (0≤la ts 0) && (four || decide (lr ts 0=1) || decide (lr ts 0=-1))
 | j+1=>decide (la ts j+2419199≤la ts (j+1)) && (decide (lr ts (j+1) - lr ts j=1) || decide (lr ts (j+1) - lr ts j=-1) || (decide (lr ts (j+1) - lr ts j=0) && four && decide (j+2=ts.length)))
def vL (ts:List LP) (four:Bool):Bool:=(List.range ts.length).all (okL ts four)
theorem vL_at {ts:List LP} {four:Bool} (h:vL ts four=true) {i:Nat} (hi:i<ts.length):okL ts four i=true:=List.all_eq_true.1 h i (List.mem_range.2 hi)
theorem vL_of {ts:List LP} {four:Bool} (h:∀ i,i<ts.length→okL ts four i=true):vL ts four=true:=List.all_eq_true.2 fun i hi=>h i (List.mem_range.1 hi)
theorem vL_34 {ts:List LP} (h:vL ts false=true):vL ts true=true:=vL_of fun i hi=>by
 have:=vL_at h hi
 cases i with
 | zero=>simp [okL] at this ⊢;exact this.1
 | succ j=>simp [okL] at this ⊢;exact ⟨this.1,.inl this.2⟩
theorem la_step {ts:List LP} {four:Bool} (h:vL ts four=true) {j:Nat} (hj:j+1<ts.length):la ts j+2419199≤la ts (j+1):=by
 have:=vL_at h hj
 simp [okL] at this
 exact this.1
theorem la_lt {ts:List LP} {four:Bool} (h:vL ts four=true) {i:Nat}:∀ d:Nat,i+d+1<ts.length→la ts i<la ts (i+d+1)
 | 0,hd=>by
   have:=la_step h (j:=i) (by omega)
   rw [Nat.add_zero]
   omega
 | d+1,hd=>by
   have h1:=la_lt h (i:=i) d (by omega)
   have h2:=la_step h (j:=i+d+1) (by omega)
   rw [show i+(d+1)+1=i+d+1+1 by omega]
   omega
theorem la_lt' {ts:List LP} {four:Bool} (h:vL ts four=true) {i j:Nat} (hij:i<j) (hj:j<ts.length):la ts i<la ts j:=by
 have:=la_lt h (i:=i) (j - i - 1) (by omega)
 rwa [show i+(j - i - 1)+1=j by omega] at this
def crN (ts:List LP) (t:Int):Nat→Int
 | 0=>0
 | n+1=>if la ts n≤t then lr ts n else crN ts t n
def cr (ts:List LP) (t:Int):Int:=crN ts t ts.length
theorem crN_later {ts:List LP} {t:Int} {i:Nat}:∀ d:Nat,(∀ j,i≤j→j<i+d→t<la ts j)→crN ts t (i+d)=crN ts t i
 | 0,_=>rfl
 | d+1,h=>by
   show crN ts t (i+d+1)=_
   rw [crN,if_neg (by have:=h (i+d) (by omega) (by omega);omega)]
   exact crN_later d fun j h1 h2=>h j h1 (by omega)
def exL (ts:List LP):Bool:=decide (2≤ts.length) && decide (lr ts (ts.length - 1)=lr ts (ts.length - 2))
abbrev TT:=Int × Bool × Int
def ttOk (t:TT):Prop:=-2147483648≤t.1∧t.1<2147483648∧0≤t.2.2∧t.2.2<256
def tc (t:TT):List Value:=[.int .i32 t.1,.bool t.2.1,.int .u8 t.2.2]
def tcs (ts:List TT):List Value:=ts.flatMap tc
theorem tc_len (t:TT):(tc t).length=3:=rfl
theorem tcs_len (ts:List TT):(tcs ts).length=ts.length * 3:=fm_len tc_len ts
theorem tcs_get {ts:List TT} {i:Nat} {t:TT} (h:ts[i]?=some t):(tcs ts)[i * 3]?=some (.int .i32 t.1)∧(tcs ts)[i * 3+1]?=some (.bool t.2.1)∧(tcs ts)[i * 3+2]?=some (.int .u8 t.2.2) :=
 ⟨fm_get tc_len ts i 0 t h (by omega),fm_get tc_len ts i 1 t h (by omega),fm_get tc_len ts i 2 t h (by omega)⟩
theorem tcs_app (a b:List TT):tcs (a++b)=tcs a++tcs b:=List.flatMap_append
theorem tcs_one (t:TT):tcs [t]=tc t:=by simp [tcs]
def e6 (t:TT):List Int:=be 4 (u64 t.1)++[if t.2.1 then 1 else 0,t.2.2]
def eTT (ts:List TT):List Int:=ts.flatMap e6
theorem e6_len (t:TT):(e6 t).length=6:=by simp [e6,be_len]
theorem eTT_len (ts:List TT):(eTT ts).length=ts.length * 6:=fm_len e6_len ts
theorem e6_bytes {t:TT} (h:ttOk t):Bytes (e6 t):=by
 unfold e6
 refine (be_bytes 4 _).app (bytes_of_mem fun x hx=>?_)
 simp only [List.mem_cons,List.not_mem_nil,or_false] at hx
 obtain ⟨h1,h2,h3,h4⟩:=h
 rcases hx with rfl | rfl
 ·split <;> omega
 ·exact ⟨h3,h4⟩
theorem eTT_bytes {ts:List TT} (h:∀ t ∈ ts,ttOk t):Bytes (eTT ts):=bytes_of_mem fun x hx=>by
 obtain ⟨t,ht,hv⟩:=List.mem_flatMap.1 hx
 exact (e6_bytes (h t ht)).mem x hv
def d6 (l:List Int) (i:Nat):TT:=(sgn 4 (uval (fld l (i * 6) 4)),decide (l[i * 6+4]?.getD 0=1),l[i * 6+5]?.getD 0)
def dTT (l:List Int) (m:Nat):List TT:=(List.range m).map (d6 l)
def fl6 (l:List Int) (m:Nat):Bool:=(List.range m).all fun i=>decide (l[i * 6+4]?.getD 0≤1)
theorem dTT_len (l:List Int) (m:Nat):(dTT l m).length=m:=by simp [dTT]
theorem dTT_step (l:List Int) (m:Nat):dTT l (m+1)=dTT l m++[d6 l m]:=by simp [dTT,List.range_succ]
theorem fl6_step (l:List Int) (m:Nat):fl6 l (m+1)=(fl6 l m && decide (l[m * 6+4]?.getD 0≤1)):=by simp [fl6,List.range_succ]
theorem fl6_no {l:List Int} {m i:Nat} (hi:i<m) (h:1<l[i * 6+4]?.getD 0):fl6 l m=false:=by
 rw [← Bool.not_eq_true]
 intro e
 have:=List.all_eq_true.1 e i (List.mem_range.2 hi)
 simp at this
 omega
theorem piece (ts:List TT) (i:Nat) (t:TT) (h:ts[i]?=some t) (j:Nat) (hj:j<6):(eTT ts)[i * 6+j]?=(e6 t)[j]?:=fm_get e6_len ts i j t h hj
theorem d6_e (ts:List TT) (i:Nat) (t:TT) (h:ts[i]?=some t) (ht:ttOk t):d6 (eTT ts) i=t∧(eTT ts)[i * 6+4]?.getD 0≤1:=by
 have h4:=piece ts i t h 4 (by omega)
 have h5:=piece ts i t h 5 (by omega)
 have hl:=(List.getElem?_eq_some_iff.1 h).1
 have hf:fld (eTT ts) (i * 6) 4=be 4 (u64 t.1):=by
  have e:ts.drop i=t :: ts.drop (i+1):=by
   rw [List.drop_eq_getElem_cons hl]
   rw [List.getElem?_eq_getElem hl] at h
   injection h with h
   rw [h]
  unfold fld
  rw [show (eTT ts).drop (i * 6)=eTT (ts.drop i) from fm_drop e6_len ts i,e]
  show List.take 4 (eTT (t :: ts.drop (i+1)))=_
  unfold eTT
  rw [List.flatMap_cons]
  unfold e6
  rw [List.append_assoc,List.take_append_of_le_length (by rw [be_len];omega),List.take_of_length_le (by rw [be_len];omega)]
 have g4:(e6 t)[4]?=some (if t.2.1 then 1 else 0):=by unfold e6;rw [List.getElem?_append_right (by rw [be_len];omega),be_len];rfl
 have g5:(e6 t)[5]?=some t.2.2:=by unfold e6;rw [List.getElem?_append_right (by rw [be_len];omega),be_len];rfl
 rw [g4] at h4
 rw [g5] at h5
 obtain ⟨o,d,x⟩:=t
 obtain ⟨o0,o1,x0,x1⟩:=ht
 dsimp only at *
 unfold d6
 rw [hf,h4,h5]
 refine ⟨?_,by cases d <;> simp⟩
 have hs:=(sgn_u64 (k:=4) (.inl rfl) o (by omega) (by omega)).2 (by unfold fitsB;simp;omega)
 rw [show ((4:Nat):Int)=4 from rfl] at hs
 rw [hs]
 cases d <;> rfl
theorem dTT_e {ts:List TT} (h:∀ t ∈ ts,ttOk t):dTT (eTT ts) ts.length=ts∧fl6 (eTT ts) ts.length=true:=by
 constructor
 ·apply List.ext_getElem (dTT_len _ _)
  intro i h1 h2
  have:=(d6_e ts i ts[i] (List.getElem?_eq_getElem h2) (h _ (List.getElem_mem h2))).1
  simpa [dTT] using this
 ·unfold fl6
  rw [List.all_eq_true]
  intro i hi
  have hi':=List.mem_range.1 hi
  exact decide_eq_true (d6_e ts i ts[i] (List.getElem?_eq_getElem hi') (h _ (List.getElem_mem hi'))).2
theorem d6_ok (l:List Int) (hl:Bytes l) (i:Nat) (h:i * 6+6≤l.length):ttOk (d6 l i):=by
 have hb:=uval_bd _ (fld_bytes hl (i * 6) 4)
 rw [fld_len _ _ _ (by omega)] at hb
 have hs:=sgn_bd (k:=4) (.inl rfl) _ hb.1 hb.2
 have hf:=hs.1
 unfold fitsB at hf
 simp at hf
 have h5:=hl (i * 6+5)
 exact ⟨hf.1,hf.2,h5.1,h5.2⟩
theorem dTT_ok (l:List Int) (hl:Bytes l) (m:Nat) (h:m * 6≤l.length):∀ t ∈ dTT l m,ttOk t:=by
 intro t ht
 obtain ⟨i,hi,rfl⟩:=List.mem_map.1 ht
 exact d6_ok l hl i (by have:=List.mem_range.1 hi;omega)
def chk (ts:List TT) (n:Int):Int:=if ts.any (fun t=>decide (t.1=-2147483648)) then 9 else if ts.any (fun t=>decide (n≤t.2.2)) then 8 else 0
abbrev bls (bs:List Bool):List Value:=bs.map Value.bool
def eB (b:Bool):Int:=if b then 1 else 0
def eI (bs:List Bool):List Int:=bs.map eB
def dI (l:List Int):List Bool:=l.map fun x=>decide (x=1)
def fI (l:List Int):Bool:=l.all fun x=>decide (x≤1)
theorem eI_len (bs:List Bool):(eI bs).length=bs.length:=List.length_map ..
theorem dI_len (l:List Int):(dI l).length=l.length:=List.length_map ..
theorem eB_bd (b:Bool):0≤eB b∧eB b≤1:=by cases b <;> decide
theorem eB_1 (b:Bool):decide (eB b=1)=b:=by cases b <;> decide
theorem eI_bd (bs:List Bool):∀ x ∈ eI bs,0≤x∧x≤1:=fun x hx=>by
 obtain ⟨b,_,rfl⟩:=List.mem_map.1 hx
 exact eB_bd b
theorem fI_e (bs:List Bool):fI (eI bs)=true:=List.all_eq_true.2 fun x hx=>decide_eq_true (eI_bd bs x hx).2
theorem dI_e (bs:List Bool):dI (eI bs)=bs:=by
 unfold dI eI
 rw [List.map_map]
 conv=>rhs;rw [← List.map_id bs]
 exact List.map_congr_left fun b _=>eB_1 b
theorem fI_step {l:List Int} {k:Nat} {x:Int} (h:l[k]?=some x):fI (l.take (k+1))=(fI (l.take k) && decide (x≤1)):=by
 unfold fI
 rw [List.take_add_one,h,List.all_append]
 simp
def bg (l:List Bool) (i:Nat):Bool:=l[i]?.getD false
theorem bg_at {l:List Bool} {i:Nat} {b:Bool} (h:l[i]?=some b):bg l i=b:=by unfold bg;rw [h];rfl
theorem bg_out {l:List Bool} {i:Nat} (h:l.length≤i):bg l i=false:=by unfold bg;rw [List.getElem?_eq_none h];rfl
def cnN (std ut:List Bool) (n:Nat):Bool:=(List.range n).all fun i=>!bg ut i || bg std i
def cn (std ut:List Bool):Bool:=cnN std ut ut.length
theorem cnN_step (std ut:List Bool) (n:Nat):cnN std ut (n+1)=(cnN std ut n && (!bg ut n || bg std n)):=by unfold cnN;rw [List.range_succ,List.all_append];simp
theorem cn_iff (std ut:List Bool):cn std ut=true ↔ ∀ i,bg ut i=true→bg std i=true:=by
 unfold cn cnN
 rw [List.all_eq_true]
 constructor
 ·intro h i hi
  have hl:i<ut.length:=by
   rcases Nat.lt_or_ge i ut.length with h' | h'
   ·exact h'
   ·rw [bg_out h'] at hi;cases hi
  have:=h i (List.mem_range.2 hl)
  rw [hi] at this
  simpa using this
 ·intro h i _
  cases hb:bg ut i
  ·rfl
  ·rw [h i hb];rfl
theorem cn_no {std ut:List Bool} {n:Nat} (hn:n<ut.length) (hu:bg ut n=true) (hs:bg std n=false):cn std ut=false:=by
 rw [← Bool.not_eq_true,cn_iff]
 intro h
 rw [h n hu] at hs
 cases hs
def IsBw (w:World) (a:Option Addr) (len cap:Nat) (bs:List Bool):Prop :=
 (a=none→len=0∧cap=0)∧len≤cap∧cap≤9223372036854775807∧Rd w a len (bls bs)
theorem IsBw.len {w:World} {a:Option Addr} {len cap:Nat} {bs:List Bool} (h:IsBw w a len cap bs):bs.length=len:=by have:=h.2.2.2.len;simpa using this
theorem rb_at {w:World} {A:Option Addr} {n:Nat} {xs:List Bool} (h:Rd w A n (bls xs)) {i:Nat} (hi:i<n):∃ ad x,A=some ad∧xs[i]?=some x∧w.cell? (ad.add i)=some (.bool x):=by
 obtain ⟨ad,v,h1,h2,h3⟩:=h.at_ hi
 rw [List.getElem?_map] at h2
 cases hx:xs[i]? with
 | none=>rw [hx] at h2;simp at h2
 | some x=>rw [hx] at h2;simp at h2;subst h2;exact ⟨ad,x,h1,rfl,h3⟩
theorem tcs_set (t:TT):∀ (ts:List TT) (i:Nat),(((tcs ts).set (i * 3) (.int .i32 t.1)).set (i * 3+1) (.bool t.2.1)).set (i * 3+2) (.int .u8 t.2.2)=tcs (ts.set i t)
 | [],i=>by simp [tcs]
 | a :: l,0=>by simp [tcs,tc]
 | a :: l,i+1=>by
   have ih:=tcs_set t l i
   unfold tcs at ih ⊢
   rw [List.set_cons_succ,List.flatMap_cons,List.flatMap_cons,← ih,show (i+1) * 3=i * 3+3 by omega]
   rfl
structure Bk where
 ti:List Int
 ix:List Int
 ty:List TT
 ch:List Int
 lp:List LP
 sd:List Bool
 ut:List Bool
def Bk.zero:Bk:=⟨[],[],[],[],[],[],[]⟩
def I64 (v:Int):Prop:=-9223372036854775808≤v∧v<9223372036854775808
structure Bk.ok (b:Bk):Prop where
 ti:∀ v ∈ b.ti,-9223372036854775808≤v∧v<9223372036854775808
 ix:Bytes b.ix
 ty:∀ t ∈ b.ty,ttOk t
 ch:Bytes b.ch
 lp:∀ t ∈ b.lp,lpOk t
theorem Bk.zero_ok:Bk.zero.ok:=⟨fun v h=>by simp [Bk.zero] at h,bytes_of_mem (by simp [Bk.zero]),fun v h=>by simp [Bk.zero] at h,bytes_of_mem (by simp [Bk.zero]),fun v h=>by simp [Bk.zero] at h⟩
def beqB (a b:Bk):Bool:=decide (a.ti=b.ti) && decide (a.ix=b.ix) && decide (a.ty=b.ty) && decide (a.ch=b.ch) && decide (a.lp=b.lp) && decide (a.sd=b.sd) && decide (a.ut=b.ut)
theorem beqB_iff (a b:Bk):beqB a b=true ↔ a=b:=by
 obtain ⟨a1,a2,a3,a4,a5,a6,a7⟩:=a
 obtain ⟨b1,b2,b3,b4,b5,b6,b7⟩:=b
 simp [beqB,and_assoc]
def encB (k:Nat) (b:Bk):List Int:=eT k b.ti++(b.ix++(eTT b.ty++(b.ch++(eLP k b.lp++(eI b.sd++eI b.ut)))))
def tot (k a b c d x y:Nat):Nat:=k * d+d+x * 6+y+c * (k+4)+b+a
def sec (k a b c d x y:Nat) (l:List Int) (p i:Nat):List Int:=match i with
 | 0=>fld l p (k * d)
 | 1=>fld l (p+k * d) d
 | 2=>fld l (p+k * d+d) (x * 6)
 | 3=>fld l (p+k * d+d+x * 6) y
 | 4=>fld l (p+k * d+d+x * 6+y) (c * (k+4))
 | 5=>fld l (p+k * d+d+x * 6+y+c * (k+4)) b
 | _=>fld l (p+k * d+d+x * 6+y+c * (k+4)+b) a
def decBk (k a b c d x y:Nat) (l:List Int) (p:Nat):Bk :=
 ⟨dT k (sec k a b c d x y l p 0) d,sec k a b c d x y l p 1,dTT (sec k a b c d x y l p 2) x,sec k a b c d x y l p 3,dLP k (sec k a b c d x y l p 4) c,dI (sec k a b c d x y l p 5),dI (sec k a b c d x y l p 6)⟩
def flB (k a b c d x y:Nat) (l:List Int) (p:Nat):Bool:=fl6 (sec k a b c d x y l p 2) x && fI (sec k a b c d x y l p 5) && fI (sec k a b c d x y l p 6)
def decB (k a b c d x y:Nat) (l:List Int) (p:Nat) (at_:Int):Bk × Int × Int × Int :=
 if l.length<p+tot k a b c d x y then (Bk.zero,p,1,l.length)
 else if flB k a b c d x y l p then (decBk k a b c d x y l p,((p+tot k a b c d x y:Nat):Int),0,0)
 else (Bk.zero,((p+tot k a b c d x y:Nat):Int),10,at_)
structure Bk.fit (k:Nat) (b:Bk):Prop where
 len:b.ti.length=b.ix.length
 ti:fT k b.ti=true
 lp:lfit k b.lp=true
def totB (k:Nat) (b:Bk):Nat:=tot k b.ut.length b.sd.length b.lp.length b.ti.length b.ty.length b.ch.length
theorem encB_len (k:Nat) (b:Bk) (h:b.ti.length=b.ix.length):(encB k b).length=totB k b:=by
 unfold encB totB tot
 simp only [List.length_append,eT_len,eTT_len,eLP_len,eI_len]
 omega
theorem fld_mid (u s r:List Int) {n:Nat} (hn:n=s.length):fld (u++(s++r)) u.length n=s:=by
 subst hn
 unfold fld
 rw [List.drop_left,List.take_left]
theorem fld_mid' (u s r:List Int) {n o:Nat} (ho:o=u.length) (hn:n=s.length):fld (u++(s++r)) o n=s:=by
 subst ho
 exact fld_mid u s r hn
theorem sec_enc {k:Nat} {b:Bk} (h:b.ti.length=b.ix.length) (u r:List Int):∀ i,i≤6 →
 sec k b.ut.length b.sd.length b.lp.length b.ti.length b.ty.length b.ch.length (u++(encB k b++r)) u.length i =
  match i with | 0=>eT k b.ti | 1=>b.ix | 2=>eTT b.ty | 3=>b.ch | 4=>eLP k b.lp | 5=>eI b.sd | _=>eI b.ut:=by
 intro i hi
 unfold encB
 simp only [List.append_assoc]
 have l0:=eT_len k b.ti
 have l2:=eTT_len b.ty
 have l4:=eLP_len k b.lp
 have l5:=eI_len b.sd
 have l6:=eI_len b.ut
 rcases (show i=0∨i=1∨i=2∨i=3∨i=4∨i=5∨i=6 by omega) with rfl | rfl | rfl | rfl | rfl | rfl | rfl
 ·unfold sec;exact fld_mid' u (eT k b.ti) _ rfl (by omega)
 ·have:=fld_mid' (o:=u.length+k * b.ti.length) (n:=b.ti.length) (u++eT k b.ti) b.ix (eTT b.ty++(b.ch++(eLP k b.lp++(eI b.sd++(eI b.ut++r))))) (by simp only [List.length_append];omega) (by omega)
  unfold sec
  simpa only [List.append_assoc] using this
 ·have:=fld_mid' (o:=u.length+k * b.ti.length+b.ti.length) (n:=b.ty.length * 6) (u++eT k b.ti++b.ix) (eTT b.ty) (b.ch++(eLP k b.lp++(eI b.sd++(eI b.ut++r)))) (by simp only [List.length_append];omega) (by omega)
  unfold sec
  simpa only [List.append_assoc] using this
 ·have:=fld_mid' (o:=u.length+k * b.ti.length+b.ti.length+b.ty.length * 6) (n:=b.ch.length) (u++eT k b.ti++b.ix++eTT b.ty) b.ch (eLP k b.lp++(eI b.sd++(eI b.ut++r))) (by simp only [List.length_append];omega) rfl
  unfold sec
  simpa only [List.append_assoc] using this
 ·have:=fld_mid' (o:=u.length+k * b.ti.length+b.ti.length+b.ty.length * 6+b.ch.length) (n:=b.lp.length * (k+4)) (u++eT k b.ti++b.ix++eTT b.ty++b.ch) (eLP k b.lp) (eI b.sd++(eI b.ut++r)) (by simp only [List.length_append];omega) (by omega)
  unfold sec
  simpa only [List.append_assoc] using this
 ·have:=fld_mid' (o:=u.length+k * b.ti.length+b.ti.length+b.ty.length * 6+b.ch.length+b.lp.length * (k+4)) (n:=b.sd.length) (u++eT k b.ti++b.ix++eTT b.ty++b.ch++eLP k b.lp) (eI b.sd) (eI b.ut++r) (by simp only [List.length_append];omega) (by omega)
  unfold sec
  simpa only [List.append_assoc] using this
 ·have:=fld_mid' (o:=u.length+k * b.ti.length+b.ti.length+b.ty.length * 6+b.ch.length+b.lp.length * (k+4)+b.sd.length) (n:=b.ut.length) (u++eT k b.ti++b.ix++eTT b.ty++b.ch++eLP k b.lp++eI b.sd) (eI b.ut) r (by simp only [List.length_append];omega) (by omega)
  unfold sec
  simpa only [List.append_assoc] using this
theorem decB_enc {k:Nat} (hk:k=4∨k=8) {b:Bk} (hb:b.ok) (hf:b.fit k) (u r:List Int) (at_:Int) :
 decB k b.ut.length b.sd.length b.lp.length b.ti.length b.ty.length b.ch.length (u++(encB k b++r)) u.length at_=(b,((u.length+totB k b:Nat):Int),0,0):=by
 have hs:=sec_enc (k:=k) hf.len u r
 have h0:=hs 0 (by omega)
 have h1:=hs 1 (by omega)
 have h2:=hs 2 (by omega)
 have h3:=hs 3 (by omega)
 have h4:=hs 4 (by omega)
 have h5:=hs 5 (by omega)
 have h6:=hs 6 (by omega)
 simp only at h0 h1 h2 h3 h4 h5 h6
 have hl:(u++(encB k b++r)).length=u.length+(totB k b+r.length):=by rw [List.length_append,List.length_append,encB_len k b hf.len]
 unfold decB
 rw [if_neg (by rw [hl];unfold totB;omega)]
 have e2:=dTT_e hb.ty
 have hfl:flB k b.ut.length b.sd.length b.lp.length b.ti.length b.ty.length b.ch.length (u++(encB k b++r)) u.length=true:=by
  unfold flB
  rw [h2,h5,h6,e2.2,fI_e,fI_e]
  rfl
 rw [if_pos hfl]
 have hd:decBk k b.ut.length b.sd.length b.lp.length b.ti.length b.ty.length b.ch.length (u++(encB k b++r)) u.length=b:=by
  unfold decBk
  rw [h0,h1,h2,h3,h4,h5,h6,(dT_eT hk b.ti hb.ti).2 hf.ti,e2.1,(dLP_e hk hb.lp).2 hf.lp,dI_e,dI_e]
 rw [hd]
 rfl
theorem sec_len (k a b c d x y:Nat) (l:List Int) (p:Nat) (h:p+tot k a b c d x y≤l.length) :
 (sec k a b c d x y l p 0).length=k * d∧(sec k a b c d x y l p 1).length=d∧(sec k a b c d x y l p 2).length=x * 6∧(sec k a b c d x y l p 3).length=y ∧
 (sec k a b c d x y l p 4).length=c * (k+4)∧(sec k a b c d x y l p 5).length=b∧(sec k a b c d x y l p 6).length=a:=by
 unfold tot at h
 refine ⟨fld_len _ _ _ ?_,fld_len _ _ _ ?_,fld_len _ _ _ ?_,fld_len _ _ _ ?_,fld_len _ _ _ ?_,fld_len _ _ _ ?_,fld_len _ _ _ ?_⟩ <;> omega
theorem sec_bytes (k a b c d x y:Nat) {l:List Int} (hl:Bytes l) (p i:Nat):Bytes (sec k a b c d x y l p i):=by
 unfold sec
 split <;> exact fld_bytes hl _ _
theorem decBk_ok {k:Nat} (hk:k=4∨k=8) (a b c d x y:Nat) {l:List Int} (hl:Bytes l) (p:Nat) (h:p+tot k a b c d x y≤l.length):(decBk k a b c d x y l p).ok∧(decBk k a b c d x y l p).fit k:=by
 obtain ⟨h0,h1,h2,h3,h4,h5,h6⟩:=sec_len k a b c d x y l p h
 have b0:=dT_bd hk _ (sec_bytes k a b c d x y hl p 0) d (by rw [h0];exact Nat.le_of_eq (Nat.mul_comm _ _))
 have b4:=dLP_ok hk _ (sec_bytes k a b c d x y hl p 4) c (Nat.le_of_eq h4.symm)
 refine ⟨⟨b0.2,sec_bytes k a b c d x y hl p 1,dTT_ok _ (sec_bytes k a b c d x y hl p 2) x (Nat.le_of_eq h2.symm),sec_bytes k a b c d x y hl p 3,fun t ht=>(b4 t ht).1⟩,⟨?_,b0.1,?_⟩⟩
 ·show (dT k _ d).length=(sec k a b c d x y l p 1).length
  rw [dT_len,h1]
 ·show lfit k (dLP k _ c)=true
  unfold lfit
  rw [List.all_eq_true]
  exact fun t ht=>(b4 t ht).2
theorem decBk_len (k a b c d x y:Nat) (l:List Int) (p:Nat) (h:p+tot k a b c d x y≤l.length) :
 (decBk k a b c d x y l p).ti.length=d∧(decBk k a b c d x y l p).ix.length=d∧(decBk k a b c d x y l p).ty.length=x∧(decBk k a b c d x y l p).ch.length=y ∧
 (decBk k a b c d x y l p).lp.length=c∧(decBk k a b c d x y l p).sd.length=b∧(decBk k a b c d x y l p).ut.length=a:=by
 obtain ⟨h0,h1,h2,h3,h4,h5,h6⟩:=sec_len k a b c d x y l p h
 exact ⟨dT_len _ _ _,h1,dTT_len _ _,h3,dLP_len _ _ _,(dI_len _).trans h5,(dI_len _).trans h6⟩
def Rk (s:Nat) (w:World) (A:Option Addr) (n:Nat) (xs:List Value):Prop :=
 xs.length=n * s∧(0<n→∃ ad,A=some ad∧∀ i v,xs[i]?=some v→w.cell? (ad.add i)=some v)
section
variable {s:Nat} {w w':World} {A:Option Addr} {n:Nat} {xs:List Value}
theorem Rk.len (h:Rk s w A n xs):xs.length=n * s:=h.1
theorem Rk.none_ (s:Nat) (w:World):Rk s w none 0 []:=⟨by simp,fun h=>absurd h (by omega)⟩
theorem Rk.keep (h:Rk s w A n xs) (hk:∀ p:Addr,p.block<w.heap.size→w'.cell? p=w.cell? p):Rk s w' A n xs :=
 ⟨h.1,fun hn=>by
  obtain ⟨ad,e,hc⟩:=h.2 hn
  exact ⟨ad,e,fun i v hi=>by have:=hc i v hi;rw [hk _ (cell_lt this)];exact this⟩⟩
theorem Rk.below (h:Rk s w A n xs) (hb:Below w.heap.size w w'):Rk s w' A n xs:=h.keep fun _ hp=>hb.cell hp
theorem Rk.alloc (h:Rk s w A n xs) (o:Obj):Rk s (w.alloc o) A n xs:=h.below (bl_new w o)
theorem Rk.drew (h:Rk s w A n xs):Rk s w.drew A n xs:=h
theorem Rk.take (h:Rk s w A n xs) {k:Nat} (hk:k≤n):Rk s w A k (xs.take (k * s)):=by
 have hle:k * s≤n * s:=Nat.mul_le_mul_right s hk
 refine ⟨by rw [List.length_take,h.1];omega,fun hn=>?_⟩
 obtain ⟨ad,e,hcell⟩:=h.2 (by omega)
 refine ⟨ad,e,fun i v hi=>hcell i v ?_⟩
 rw [List.getElem?_take] at hi
 split at hi
 ·exact hi
 ·cases hi
theorem Rk.cut (h:Rk s w A n xs) {k cap:Nat} (hk:k≤n) (hc:n≤cap):Rk s w (if cap=k then A else A.map (·.add (k * s))) (n - k) (xs.drop (k * s)):=by
 refine ⟨by rw [List.length_drop,h.1,Nat.sub_mul],fun hn=>?_⟩
 obtain ⟨ad,rfl,hcell⟩:=h.2 (by omega)
 rw [if_neg (by omega)]
 refine ⟨ad.add (k * s),rfl,fun i v hi=>?_⟩
 rw [addr_add]
 exact hcell _ v (by rw [← hi,List.getElem?_drop])
theorem Rk.at_ (h:Rk s w A n xs) {i j:Nat} (hi:i<n) (hj:j<s) {v:Value} (hv:xs[i * s+j]?=some v):∃ ad,A=some ad∧w.cell? (ad.add (i * s+j))=some v:=by
 obtain ⟨ad,e,hc⟩:=h.2 (by omega)
 exact ⟨ad,e,hc _ v hv⟩
end
def Ok (s:Nat) (w:World) (b:Nat) (e:TypeId) (A:Option Addr) (n c:Nat) (xs:List Value):Prop :=
 b≤w.heap.size∧w.ownsRow b e s (.slice A n c) n xs
section
variable {s:Nat} {w w':World} {b:Nat} {e:TypeId} {A:Option Addr} {n c:Nat} {xs:List Value}
theorem Ok.len (h:Ok s w b e A n c xs):xs.length=n * s:=h.2.1
theorem Ok.base (h:Ok s w b e A n c xs):b≤w.heap.size:=h.1
theorem Ok.nil (hb:b≤w.heap.size) (s:Nat) (e:TypeId):Ok s w b e none 0 0 []:=⟨hb,World.ownsRow_nil _ _ _ _⟩
theorem Ok.cap (h:Ok s w b e A n c xs):n≤c:=by
 rcases h.2.2 with ⟨h',rfl⟩ | ⟨g,cap,cur,h',_,_,hn,_⟩
 ·omega
 ·injection h' with _ _ h3
  omega
theorem Ok.capMax (h:Ok s w b e A n c xs):c≤maxLen:=by
 rcases h.2.2 with ⟨h',rfl⟩ | ⟨g,cap,cur,h',_,_,hn,hm,_⟩
 ·injection h' with _ _ h3
  omega
 ·injection h' with _ _ h3
  omega
theorem Ok.nilcap (h:Ok s w b e A n c xs) (hA:A=none):n=0∧c=0:=by
 subst hA
 rcases h.2.2 with ⟨h',rfl⟩ | ⟨g,cap,cur,h',_⟩
 ·injection h' with _ _ h3
  exact ⟨rfl,h3⟩
 ·injection h' with h'
  cases h'
theorem Ok.lit (s:Nat) (w:World) (e:TypeId) (xs:List Value) (n:Nat) (hn:xs.length=n * s) (hm:n≤maxLen):Ok s (w.alloc (.cells xs.toArray e)) w.heap.size e (some ⟨w.heap.size,0,none⟩) n n xs :=
 ⟨by simp,by
  have:=World.ownsRow_lit (size:=s) (base:=w.heap.size) (e:=e) w xs.toArray n (Nat.le_refl _) hm (by simpa using hn)
  simpa using this⟩
theorem Ok.drew (h:Ok s w b e A n c xs):Ok s w.drew b e A n c xs:=⟨h.1,h.2.drew⟩
theorem Ok.alloc (h:Ok s w b e A n c xs) (o:Obj):Ok s (w.alloc o) b e A n c xs:=⟨by have:=h.1;simp;omega,h.2.alloc o⟩
theorem Ok.lt (h:Ok s w b e A n c xs):∀ k,(Value.slice A n c).ownBlock=some k→b≤k∧k<w.heap.size:=h.2.lt
theorem Ok.mono (h:Ok s w b e A n c xs) {b':Nat} (hb:b'≤b):Ok s w b' e A n c xs :=
 ⟨Nat.le_trans hb h.1,h.2.1,h.2.2.imp id fun ⟨g,cap,cur,e1,e2,e3⟩=>⟨g,cap,cur,e1,Nat.le_trans hb e2,e3⟩⟩
theorem Ok.below (h:Ok s w b e A n c xs) (hb:Below w.heap.size w w'):Ok s w' b e A n c xs:=by
 refine ⟨Nat.le_trans h.1 hb.size,h.2.1,?_⟩
 rcases h.2.2 with h' | ⟨g,cap,cur,e1,e2,e3,e4⟩
 ·exact .inl h'
 ·refine .inr ⟨g,cap,cur,e1,e2,?_,e4⟩
  have hg:g<w.heap.size:=(h.2.lt g (by rw [e1];rfl)).2
  exact (hb.block g hg).trans e3
theorem Ok.form (h:Ok s w b e A n c xs) (hn:0<n):∃ g,A=some ⟨g,0,none⟩∧b≤g∧g<w.heap.size:=by
 rcases h.2.2 with ⟨_,h'⟩ | ⟨g,cap,cur,e1,e2,e3,e4⟩
 ·omega
 ·have hg:g<w.heap.size:=(h.2.lt g (by rw [e1];rfl)).2
  injection e1 with e1
  exact ⟨g,e1,e2,hg⟩
theorem Ok.rd (h:Ok s w b e A n c xs):Rk s w A n xs:=by
 refine ⟨h.len,fun hn=>?_⟩
 obtain ⟨g,rfl,_,_⟩:=h.form hn
 exact ⟨_,rfl,h.2.cells (g:=g) rfl⟩
theorem Ok.cell {g:Nat} (h:Ok s w b e (some ⟨g,0,none⟩) n c xs) (j:Nat) (hj:j<n * s):w.cell? ⟨g,j,none⟩=xs[j]?:=h.2.cellAt j hj
theorem Ok.frozen {g:Nat} (h:Ok s w b e (some ⟨g,0,none⟩) n c xs) (j:Nat):w.frozen? ⟨g,j,none⟩=false:=h.2.frozenAt j
theorem Ok.set {g:Nat} (h:Ok s w b e (some ⟨g,0,none⟩) n c xs) (j:Nat) (u:Value):Ok s (w.setCell ⟨g,j,none⟩ u) b e (some ⟨g,0,none⟩) n c (xs.set j u) :=
 ⟨by have:=h.1;simpa [World.setCell] using this,(h.2.stored j u).1⟩
theorem Ok.setLow (h:Ok s w b e A n c xs) {g:Nat} (o:Nat) (hg:g<b) (u:Value):Ok s (w.setCell ⟨g,o,none⟩ u) b e A n c xs :=
 ⟨by have:=h.1;simpa [World.setCell] using this,ownsRow_setCell_below h.2 (a:=⟨g,o,none⟩) hg u⟩
theorem Ok.blk (h:Ok s w b e A n c xs) {g:Nat} (hg:oB A=some g):b≤g∧g<w.heap.size:=h.lt g (by rw [oB_own];exact hg)
theorem Gw.ok {A A' A2:Option Addr} (h:Gw w w' A A') (ho:Ok s w b e A2 n c xs) (hd:Dj A2 A):Ok s w' b e A2 n c xs:=by
 refine ⟨Nat.le_trans ho.1 h.size,ho.2.kept h.g ?_⟩
 rw [oB_own]
 rcases hA:oB A2 with _ | g
 ·exact .inl rfl
 ·exact .inr fun h'=>hd g hA h'.symm
end
section
variable {P:Program} {t e:TypeId} {s by_:Nat} {ops:Array Oper} {rest:List Oper} {o:Oper} {a:Act} {Q:Exit→Act→World→Prop}
end
structure Sl where
 A:Option Addr
 n:Nat
 c:Nat
structure BkS where
 ti:Sl
 ix:Sl
 ty:Sl
 ch:Sl
 lp:Sl
 sd:Sl
 ut:Sl
@[reducible] def bkV (S:BkS):Value:=.agg #[.slice S.ti.A S.ti.n S.ti.c,.slice S.ix.A S.ix.n S.ix.c,.slice S.ty.A S.ty.n S.ty.c,.slice S.ch.A S.ch.n S.ch.c,.slice S.lp.A S.lp.n S.lp.c,.slice S.sd.A S.sd.n S.sd.c,.slice S.ut.A S.ut.n S.ut.c]
def Sl.ok (s:Sl):Prop:=(s.A=none→s.n=0∧s.c=0)∧s.n≤s.c∧s.c≤9223372036854775807
structure IsBk (w:World) (S:BkS) (b:Bk):Prop where
 oti:S.ti.ok
 oix:S.ix.ok
 oty:S.ty.ok
 och:S.ch.ok
 olp:S.lp.ok
 osd:S.sd.ok
 out_:S.ut.ok
 ti:Rd w S.ti.A S.ti.n (b.ti.map (Value.int .i64))
 ix:Rd w S.ix.A S.ix.n (b.ix.map (Value.int .u8))
 ty:Rk 3 w S.ty.A S.ty.n (tcs b.ty)
 ch:Rd w S.ch.A S.ch.n (b.ch.map (Value.int .u8))
 lp:Rk 2 w S.lp.A S.lp.n (lcs b.lp)
 sd:Rd w S.sd.A S.sd.n (bls b.sd)
 ut:Rd w S.ut.A S.ut.n (bls b.ut)
 ok:b.ok
section
variable {w w':World} {S:BkS} {b:Bk}
theorem IsBk.below (h:IsBk w S b) (hb:Below w.heap.size w w'):IsBk w' S b :=
 ⟨h.oti,h.oix,h.oty,h.och,h.olp,h.osd,h.out_,h.ti.below hb,h.ix.below hb,h.ty.below hb,h.ch.below hb,h.lp.below hb,h.sd.below hb,h.ut.below hb,h.ok⟩
theorem IsBk.alloc (h:IsBk w S b) (o:Obj):IsBk (w.alloc o) S b:=h.below (bl_new w o)
theorem IsBk.drew (h:IsBk w S b):IsBk w.drew S b:=h.below (bl_drew (bl_refl w))
theorem IsBk.lens (h:IsBk w S b):b.ti.length=S.ti.n∧b.ix.length=S.ix.n∧b.ty.length=S.ty.n∧b.ch.length=S.ch.n∧b.lp.length=S.lp.n∧b.sd.length=S.sd.n∧b.ut.length=S.ut.n:=by
 refine ⟨?_,?_,?_,?_,?_,?_,?_⟩
 ·have:=h.ti.len;simpa using this
 ·have:=h.ix.len;simpa using this
 ·have:=h.ty.len;rw [tcs_len] at this;omega
 ·have:=h.ch.len;simpa using this
 ·have:=h.lp.len;rw [lcs_len] at this;omega
 ·have:=h.sd.len;simpa using this
 ·have:=h.ut.len;simpa using this
end
def BkS.zero:BkS:=⟨⟨none,0,0⟩,⟨none,0,0⟩,⟨none,0,0⟩,⟨none,0,0⟩,⟨none,0,0⟩,⟨none,0,0⟩,⟨none,0,0⟩⟩
end Go.Proofs.YtpapfpcehlhgeaaGreatDoor
