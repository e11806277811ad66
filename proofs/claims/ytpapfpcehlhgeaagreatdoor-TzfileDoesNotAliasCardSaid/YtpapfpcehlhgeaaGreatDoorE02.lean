/-
  Texts of mine in one file: Row4, BlO, But, Bu2, Str, DsMath, VdM, Tn, TnMath, Hm, Hf, HmMath, HmMath2, CvMath, RdMath, Pt, PtSp, PtFmt, PoW, Ref10x, RdStep, TeMath. Their conditions stand in the theorems.
-/
import Derived.Test.YtpapfpcehlhgeaaGreatDoorE01
import Derived.Laws.Rows
import Derived.Laws.Tables
import Derived.Deep.WholeRow
import Derived.Deep.RegionHeld3
import Derived.RangeFuncNested
import Derived.RangeFuncBound
import Derived.RangeFuncCalls
import Derived.RangeFuncLeaves
import Derived.Shelf.Abstract
import Derived.Shelf.RegionOpen
import Derived.WalkKit
import Derived.OwnWalkIn
import Derived.TacticsInMore
import Derived.LoopNIn
import Derived.LoopIn
import Derived.WalkMore
import Derived.Test.YtpapfpcehlhgeaaGreatDoorRows
import Derived.Deep.DeepCutAuto
namespace Go.Proofs.YtpapfpcehlhgeaaGreatDoor
set_option linter.unusedVariables false
set_option linter.unusedSimpArgs false
set_option maxRecDepth 100000
set_option maxHeartbeats 16000000
open Go.ChangeShapes Go.WideShapes Go.ChangeAt Go.RowKit
def Ro (w:World) (g:Nat) (vs:Array Value) (T:TypeId):Prop:=w.heap[g]?=some (.cells vs T (0,0))
theorem Ro.lt {w:World} {g:Nat} {vs:Array Value} {T:TypeId} (h:Ro w g vs T):g<w.heap.size:=by
 rcases Nat.lt_or_ge g w.heap.size with hl | hl
 ·exact hl
 ·unfold Ro at h
  rw [Array.getElem?_eq_none hl] at h
  cases h
theorem Ro.new (w:World) (vs:Array Value) (T:TypeId):Ro (w.alloc (.cells vs T)) w.heap.size vs T:=heap_alloc_last w _
theorem Ro.below {w w':World} {g:Nat} {vs:Array Value} {T:TypeId} (h:Ro w g vs T) (hb:Below w.heap.size w w'):Ro w' g vs T:=(hb.block g h.lt).trans h
theorem Ro.alloc {w:World} {g:Nat} {vs:Array Value} {T:TypeId} (h:Ro w g vs T) (o:Obj):Ro (w.alloc o) g vs T:=h.below (bl_new w o)
theorem Ro.drew {w:World} {g:Nat} {vs:Array Value} {T:TypeId} (h:Ro w g vs T):Ro w.drew g vs T:=h
theorem Ro.cell {w:World} {g:Nat} {vs:Array Value} {T:TypeId} (h:Ro w g vs T) (j:Nat):w.cell? ⟨g,j,none⟩=vs[j]?:=cell_of_row w g j vs T (0,0) h
theorem Ro.frozen {w:World} {g:Nat} {vs:Array Value} {T:TypeId} (h:Ro w g vs T) (j:Nat):w.frozen? ⟨g,j,none⟩=false:=frozen_of_row w g j vs T h
section
variable {P:Program} {ops:Array Oper} {rest:List Oper} {o:Oper} {a:Act} {w:World} {Q:Exit→Act→World→Prop}
theorem load_row_g (hw:Region.wanted o (yielded ops a.tmps)=true) (ty:TypeId) (x:Operand) (ho:o.op=.load ty x)
 (g:Nat) (hx:a.eval x=.pointer (some ⟨g,0,none⟩)) (t:TypeId) (cs:Array Value) (d:TypeDesc) (hg:Ro w g cs t)
 (hu:P.underlying ty=some d) (hd:(match d with | .struct _ | .array _ _=>true | _=>false)=true) (hi:(P.info? ty).map (·.size)=some cs.size)
 (h:wpList P ops Q rest (a.put o.dst (.agg cs)) w):wpList P ops Q (o :: rest) a w :=
 wpList_step fun _ hK=>by
  rw [if_pos hw]
  exact wp_load_row ty x ho g hx t cs (0,0) d hg hu hd hi (hK _ _ h)
theorem Ro.load {w:World} {g:Nat} {cs:Array Value} {t:TypeId} (h:Ro w g cs t) (ty:TypeId) (d:TypeDesc) (hu:P.underlying ty=some d) (hd:(match d with | .struct _ | .array _ _=>true | _=>false)=true) (hi:(P.info? ty).map (·.size)=some cs.size) :
 (Instr.loadAt ty (.pointer (some ⟨g,0,none⟩))).run P w=.ok (.agg cs) w∧(loadVar ty ⟨g,0,none⟩).run P w=.ok (.agg cs) w:=by
 have hl:=run_loadVar_row w g t ty cs (0,0) d h hu hd hi
 refine ⟨?_,hl⟩
 simp only [Instr.loadAt,Instr.sureAddr,Sem.run_bind,Sem.run_pure,Result.andThen]
 exact hl
end
theorem ro_set {w:World} {g:Nat} {vs:Array Value} {T:TypeId} (h:Ro w g vs T) (k:Nat) (v:Value):Ro (w.setCell ⟨g,k,none⟩ v) g (vs.setIfInBounds k v) T:=by
 unfold Ro at *
 simp [World.setCell,Array.getElem?_modify,h]
theorem ro_set_ne {w:World} {g g':Nat} {vs:Array Value} {T:TypeId} (h:Ro w g vs T) (hne:g'≠g) (k:Nat) (v:Value):Ro (w.setCell ⟨g',k,none⟩ v) g vs T:=by
 unfold Ro at *
 simp [World.setCell,Array.getElem?_modify,hne,h]
theorem ro_row {w:World} {g:Nat} {vs:Array Value} {T:TypeId} (h:Ro w g vs T) (cs:Array Value):Ro (w.setRow g cs) g cs T:=setRow_heap w g vs cs T (0,0) h
theorem bl_row {a w:World} (h:Below a.heap.size a w) {g:Nat} (hg:a.heap.size≤g) (cs:Array Value):Below a.heap.size a (w.setRow g cs) :=
 ⟨h.os,h.tape,h.output,by rw [size_setRow];exact h.size,fun k hk=>by rw [setRow_other w g k cs (by omega)];exact h.block k hk⟩
theorem ro_cf {w:World} {g:Nat} {vs:Array Value} {T:TypeId} (h:Ro w g vs T) (k:Nat) (v:Value) (hv:vs[k]?=some v):w.cell? ⟨g,k,none⟩=some v∧w.frozen? ⟨g,k,none⟩=false:=⟨by rw [h.cell,hv],h.frozen k⟩
theorem ro_set1' {w:World} {g:Nat} {x0 a':Value} {T:TypeId} (h:Ro w g #[a'] T):Ro (w.setCell ⟨g,0,none⟩ x0) g #[x0] T:=by
 have:=ro_set h 0 x0
 simpa using this
theorem ro_away1 {w:World} {g g':Nat} {vs:Array Value} {a:Value} {T:TypeId} (h:Ro w g vs T) (hne:g'≠g):Ro (w.setCell ⟨g',0,none⟩ a) g vs T:=ro_set_ne h hne 0 a
theorem bl_set1 {w0 w:World} {a:Value} (h:Below w0.heap.size w0 w) {g:Nat} (hg:w0.heap.size≤g):Below w0.heap.size w0 (w.setCell ⟨g,0,none⟩ a):=bl_set h hg _
theorem wpAnyH_takeD {P:Program} {md:Region.Mode} {ops:Array Oper} {Q:Exit→Act→World→Prop} {S:World→Prop} {i:Nat} {oi:Oper} {d:Option Tmp} {v:Value} {fuel:Nat} {listed:Array Bool} {a:Act} {w:World} (hi:ops[i]?=some oi) (hd:oi.dst=d)
 (hs:Region.noSelect ops=true) (hf:Region.free md ops listed i=true) (hr:(Region.ready md ops listed).contains i=true)
 (hQ:∀ c a w,Q (.panic c) (a.put d v) w→Q (.panic c) a w) (hy:YieldsIf P ops S oi v a) (hS:S w)
 (h:wpAnyH P md ops Q S fuel (listed.setIfInBounds i true) (a.put d v) w):wpAnyH P md ops Q S (fuel+1) listed a w:=by
 subst hd
 exact wpAnyH_take hi hs hf hr hQ hy hS h
theorem yieldsIf_load_row {P:Program} {ops:Array Oper} {S:World→Prop} {op:Oper} {a:Act} (hw:Region.wanted op (yielded ops a.tmps)=true) (ty:TypeId) (x:Operand) (ho:op.op=.load ty x)
 (g:Nat) (hx:a.eval x=.pointer (some ⟨g,0,none⟩)) (t:TypeId) (cs:Array Value) (d:TypeDesc) (hS:∀ w,S w→Ro w g cs t)
 (hu:P.underlying ty=some d) (hd:(match d with | .struct _ | .array _ _=>true | _=>false)=true) (hi:(P.info? ty).map (·.size)=some cs.size):YieldsIf P ops S op (.agg cs) a :=
 .inl ⟨hw,fun w hw'=>by
  unfold execOp
  simp only [ho,hx,Sem.run_bind,Sem.run_pure,((hS w hw').load ty d hu hd hi).1,Result.andThen_ok]⟩
open Go.ChangeShapes Go.WideShapes Go.ChangeAt Go.RowKit Go.Shelf
theorem grown_of {W W':World} (h:Below W.heap.size W W'):W.grownBy W' none:=⟨h.os,h.tape,h.output,h.size,fun k hk _=>h.block k hk⟩
theorem ko_below {W W':World} (h:Below W.heap.size W W'):KeepsOthers W W':=KeepsOthers.of_grownBy (grown_of h) (fun j o e=>by cases e)
theorem ro_keep {W W':World} {row:Option Nat} {g:Nat} {vs:Array Value} {T:TypeId} (hs:Ro W g vs T) (hg:W.grownBy W' row) (hr:∀ r,row=some r→∃ o:Obj,W.heap[r]?=some o∧o.isCells=false):Ro W' g vs T :=
 (hg.block g hs.lt (fun e=>by obtain ⟨o,ho,hc⟩:=hr g e.symm;unfold Ro at hs;rw [hs] at ho;cases ho;simp [Obj.isCells] at hc)).trans hs
def Kp1 (n₀ g:Nat) (W W':World):Prop:=Below n₀ W W'∧W'.heap[g]?=W.heap[g]?
theorem kp1_t {n₀ g:Nat} {A B C:World} (h:Kp1 n₀ g A B) (k:Kp1 n₀ g B C):Kp1 n₀ g A C:=⟨h.1.trans k.1,k.2.trans h.2⟩
theorem kp1_b {n₀ g:Nat} {w:World} (hn:n₀≤w.heap.size) (hg:g<w.heap.size) (W:World) (l:Nat) (o o':Obj) (hl:w.heap.size≤l) (h:W.heap[l]?=some o) (hc:o.isCells=false) (hw:o.isWalk=false):Kp1 n₀ g W (W.putObj l o') :=
 ⟨belowK_b hn W l o o' hl h hc hw,World.putObj_heap_other (by omega)⟩
theorem kp1_below {n₀ g:Nat} {W W':World} (h:Below W.heap.size W W') (hn:n₀≤W.heap.size) (hg:g<W.heap.size):Kp1 n₀ g W W':=⟨h.mono hn,h.block g hg⟩
theorem kp1_refl (n₀ g:Nat) (W:World):Kp1 n₀ g W W:=⟨Below.refl _ _,rfl⟩
theorem ro_set4' {w:World} {g:Nat} {x0 x1 x2 x3 y0 y1 y2 y3:Value} {T:TypeId} (h:Ro w g #[y0,y1,y2,y3] T):Ro ((((w.setCell ⟨g,0,none⟩ x0).setCell ⟨g,1,none⟩ x1).setCell ⟨g,2,none⟩ x2).setCell ⟨g,3,none⟩ x3) g #[x0,x1,x2,x3] T:=(ro_set (ro_set (ro_set (ro_set h 0 x0) 1 x1) 2 x2) 3 x3)
theorem ro_away4 {w:World} {g g':Nat} {vs:Array Value} {x0 x1 x2 x3:Value} {T:TypeId} (h:Ro w g vs T) (hne:g'≠g):Ro ((((w.setCell ⟨g',0,none⟩ x0).setCell ⟨g',1,none⟩ x1).setCell ⟨g',2,none⟩ x2).setCell ⟨g',3,none⟩ x3) g vs T:=(ro_set_ne (ro_set_ne (ro_set_ne (ro_set_ne h hne 0 x0) hne 1 x1) hne 2 x2) hne 3 x3)
theorem bl_setx4 {w0 w:World} {x0 x1 x2 x3:Value} (h:Below w0.heap.size w0 w) {g:Nat} (hg:w0.heap.size≤g):Below w0.heap.size w0 ((((w.setCell ⟨g,0,none⟩ x0).setCell ⟨g,1,none⟩ x1).setCell ⟨g,2,none⟩ x2).setCell ⟨g,3,none⟩ x3):=(bl_set (bl_set (bl_set (bl_set h hg x0) hg x1) hg x2) hg x3)
theorem ro_set7' {w:World} {g:Nat} {x0 x1 x2 x3 x4 x5 x6 y0 y1 y2 y3 y4 y5 y6:Value} {T:TypeId} (h:Ro w g #[y0,y1,y2,y3,y4,y5,y6] T):Ro (((((((w.setCell ⟨g,0,none⟩ x0).setCell ⟨g,1,none⟩ x1).setCell ⟨g,2,none⟩ x2).setCell ⟨g,3,none⟩ x3).setCell ⟨g,4,none⟩ x4).setCell ⟨g,5,none⟩ x5).setCell ⟨g,6,none⟩ x6) g #[x0,x1,x2,x3,x4,x5,x6] T:=by
 have h1:Ro (w.setCell ⟨g,0,none⟩ x0) g #[x0,y1,y2,y3,y4,y5,y6] T:=by have:=ro_set h 0 x0;simpa using this
 have h2:Ro ((w.setCell ⟨g,0,none⟩ x0).setCell ⟨g,1,none⟩ x1) g #[x0,x1,y2,y3,y4,y5,y6] T:=by have:=ro_set h1 1 x1;simpa using this
 have h3:Ro (((w.setCell ⟨g,0,none⟩ x0).setCell ⟨g,1,none⟩ x1).setCell ⟨g,2,none⟩ x2) g #[x0,x1,x2,y3,y4,y5,y6] T:=by have:=ro_set h2 2 x2;simpa using this
 have h4:Ro ((((w.setCell ⟨g,0,none⟩ x0).setCell ⟨g,1,none⟩ x1).setCell ⟨g,2,none⟩ x2).setCell ⟨g,3,none⟩ x3) g #[x0,x1,x2,x3,y4,y5,y6] T:=by have:=ro_set h3 3 x3;simpa using this
 have h5:Ro (((((w.setCell ⟨g,0,none⟩ x0).setCell ⟨g,1,none⟩ x1).setCell ⟨g,2,none⟩ x2).setCell ⟨g,3,none⟩ x3).setCell ⟨g,4,none⟩ x4) g #[x0,x1,x2,x3,x4,y5,y6] T:=by have:=ro_set h4 4 x4;simpa using this
 have h6:Ro ((((((w.setCell ⟨g,0,none⟩ x0).setCell ⟨g,1,none⟩ x1).setCell ⟨g,2,none⟩ x2).setCell ⟨g,3,none⟩ x3).setCell ⟨g,4,none⟩ x4).setCell ⟨g,5,none⟩ x5) g #[x0,x1,x2,x3,x4,x5,y6] T:=by have:=ro_set h5 5 x5;simpa using this
 have h7:Ro (((((((w.setCell ⟨g,0,none⟩ x0).setCell ⟨g,1,none⟩ x1).setCell ⟨g,2,none⟩ x2).setCell ⟨g,3,none⟩ x3).setCell ⟨g,4,none⟩ x4).setCell ⟨g,5,none⟩ x5).setCell ⟨g,6,none⟩ x6) g #[x0,x1,x2,x3,x4,x5,x6] T:=by have:=ro_set h6 6 x6;simpa using this
 exact h7
theorem ro_away7 {w:World} {g g':Nat} {vs:Array Value} {x0 x1 x2 x3 x4 x5 x6:Value} {T:TypeId} (h:Ro w g vs T) (hne:g'≠g):Ro (((((((w.setCell ⟨g',0,none⟩ x0).setCell ⟨g',1,none⟩ x1).setCell ⟨g',2,none⟩ x2).setCell ⟨g',3,none⟩ x3).setCell ⟨g',4,none⟩ x4).setCell ⟨g',5,none⟩ x5).setCell ⟨g',6,none⟩ x6) g vs T:=(ro_set_ne (ro_set_ne (ro_set_ne (ro_set_ne (ro_set_ne (ro_set_ne (ro_set_ne h hne 0 x0) hne 1 x1) hne 2 x2) hne 3 x3) hne 4 x4) hne 5 x5) hne 6 x6)
theorem bl_setx7 {w0 w:World} {x0 x1 x2 x3 x4 x5 x6:Value} (h:Below w0.heap.size w0 w) {g:Nat} (hg:w0.heap.size≤g):Below w0.heap.size w0 (((((((w.setCell ⟨g,0,none⟩ x0).setCell ⟨g,1,none⟩ x1).setCell ⟨g,2,none⟩ x2).setCell ⟨g,3,none⟩ x3).setCell ⟨g,4,none⟩ x4).setCell ⟨g,5,none⟩ x5).setCell ⟨g,6,none⟩ x6):=(bl_set (bl_set (bl_set (bl_set (bl_set (bl_set (bl_set h hg x0) hg x1) hg x2) hg x3) hg x4) hg x5) hg x6)
def Gr (P:Program) (T:TypeId) (n:Nat) (cs:Array Value):Prop:=(P.info? T).map (·.size)=some cs.size∧cs.size=n∧cs.all (·.oneCell')=true
theorem tkV {P : Program} {md : Region.Mode} {ops : Array Oper} {Q : Exit → Act → World → Prop} {S : World → Prop} (i : Nat) (d : Option Tmp) {oi : Oper} {v : Value} {fuel : Nat} {listed : Array Bool} {a : Act} {w : World} (hv : ∀ w, S w → (execOp a.eval oi).run P w = .ok (.value v) w)
 (h : wpAnyH P md ops Q S fuel (listed.setIfInBounds i true) (a.put d v) w) (hi : ops[i]? = some oi := by rfl) (hd : oi.dst = d := by rfl) (hs : Region.noSelect ops = true := by kernel_rfl) (hf : Region.free md ops listed i = true := by kernel_rfl) (hr : (Region.ready md ops listed).contains i = true := by kernel_rfl)
 (hQ : ∀ c a w, Q (.panic c) (a.put d v) w → Q (.panic c) a w := by exact fun _ _ _ h => h) (hw : Region.wanted oi (yielded ops a.tmps) = true := by rfl) (hS : S w := by assumption) : wpAnyH P md ops Q S (fuel + 1) listed a w := wpAnyH_takeD hi hd hs hf hr hQ (Or.inl ⟨hw, hv⟩) hS h
theorem tkN {P : Program} {md : Region.Mode} {ops : Array Oper} {Q : Exit → Act → World → Prop} {S : World → Prop} (i : Nat) (d : Option Tmp) {oi : Oper} {v : Value} {fuel : Nat} {listed : Array Bool} {a : Act} {w : World}
 (h : wpAnyH P md ops Q S fuel (listed.setIfInBounds i true) (a.put d v) w) (hi : ops[i]? = some oi := by rfl) (hd : oi.dst = d := by rfl) (hs : Region.noSelect ops = true := by kernel_rfl) (hf : Region.free md ops listed i = true := by kernel_rfl) (hr : (Region.ready md ops listed).contains i = true := by kernel_rfl)
 (hQ : ∀ c a w, Q (.panic c) (a.put d v) w → Q (.panic c) a w := by exact fun _ _ _ h => h) (hw : Region.wanted oi (yielded ops a.tmps) = false := by rfl) (hv : v = undef := by rfl) (hS : S w := by assumption) : wpAnyH P md ops Q S (fuel + 1) listed a w := wpAnyH_takeD hi hd hs hf hr hQ (Or.inr ⟨hw, hv⟩) hS h

theorem ow_slok {w:World} {B n c:Nat} {e:TypeId} {A:Option Addr} {l:List Value} (h:Ow w B e A n c l):(Sl.mk A n c).ok:=⟨h.nilcap,h.cap,by have:=h.capMax;simpa [maxLen] using this⟩
theorem ok_slok {w:World} {s B n c:Nat} {e:TypeId} {A:Option Addr} {l:List Value} (h:Ok s w B e A n c l):(Sl.mk A n c).ok:=⟨h.nilcap,h.cap,by have:=h.capMax;simpa [maxLen] using this⟩
@[reducible] def blA (S:BkS):Array Value:=#[.slice S.ti.A S.ti.n S.ti.c,.slice S.ix.A S.ix.n S.ix.c,.slice S.ty.A S.ty.n S.ty.c,.slice S.ch.A S.ch.n S.ch.c,.slice S.lp.A S.lp.n S.lp.c,.slice S.sd.A S.sd.n S.sd.c,.slice S.ut.A S.ut.n S.ut.c]
theorem gr_blk (S:BkS):Gr Tryz.prog 28 7 (blA S):=⟨by rw [show (blA S).size=7 from rfl];kernel_rfl,rfl,by simp [blA,Value.oneCell']⟩
structure OwBk (w:World) (B:Nat) (S:BkS) (b:Bk):Prop where
 ti:Ow w B 2 S.ti.A S.ti.n S.ti.c (b.ti.map (Value.int .i64))
 ix:Ow w B 5 S.ix.A S.ix.n S.ix.c (b.ix.map (Value.int .u8))
 ty:Ok 3 w B 156 S.ty.A S.ty.n S.ty.c (tcs b.ty)
 ch:Ow w B 5 S.ch.A S.ch.n S.ch.c (b.ch.map (Value.int .u8))
 lp:Ok 2 w B 113 S.lp.A S.lp.n S.lp.c (lcs b.lp)
 sd:Ow w B 4 S.sd.A S.sd.n S.sd.c (bls b.sd)
 ut:Ow w B 4 S.ut.A S.ut.n S.ut.c (bls b.ut)
 ok:b.ok
section
variable {w w':World} {B:Nat} {S:BkS} {b:Bk}
theorem OwBk.is (h:OwBk w B S b):IsBk w S b :=
 ⟨ow_slok h.ti,ow_slok h.ix,ok_slok h.ty,ow_slok h.ch,ok_slok h.lp,ow_slok h.sd,ow_slok h.ut,h.ti.rd,h.ix.rd,h.ty.rd,h.ch.rd,h.lp.rd,h.sd.rd,h.ut.rd,h.ok⟩
theorem OwBk.below (h:OwBk w B S b) (hb:Below w.heap.size w w'):OwBk w' B S b :=
 ⟨h.ti.below hb,h.ix.below hb,h.ty.below hb,h.ch.below hb,h.lp.below hb,h.sd.below hb,h.ut.below hb,h.ok⟩
theorem OwBk.mono (h:OwBk w B S b) {B':Nat} (hb:B'≤B):OwBk w B' S b :=
 ⟨h.ti.mono hb,h.ix.mono hb,h.ty.mono hb,h.ch.mono hb,h.lp.mono hb,h.sd.mono hb,h.ut.mono hb,h.ok⟩
theorem OwBk.setLow (h:OwBk w B S b) {g:Nat} (o:Nat) (hg:g<B) (u:Value):OwBk (w.setCell ⟨g,o,none⟩ u) B S b :=
 ⟨h.ti.setLow o hg u,h.ix.setLow o hg u,h.ty.setLow o hg u,h.ch.setLow o hg u,h.lp.setLow o hg u,h.sd.setLow o hg u,h.ut.setLow o hg u,h.ok⟩
theorem OwBk.drew (h:OwBk w B S b):OwBk w.drew B S b :=
 ⟨h.ti.drew,h.ix.drew,h.ty.drew,h.ch.drew,h.lp.drew,h.sd.drew,h.ut.drew,h.ok⟩
end
structure But (b:Nat) (w w':World):Prop where
 os:w'.os=w.os
 tape:w'.tape=w.tape
 output:w'.output=w.output
 size:w.heap.size≤w'.heap.size
 block:∀ k,k<w.heap.size→k≠b→w'.heap[k]?=w.heap[k]?
theorem But.refl (b:Nat) (w:World):But b w w:=⟨rfl,rfl,rfl,Nat.le_refl _,fun _ _ _=>rfl⟩
theorem But.trans {b:Nat} {w w1 w2:World} (h:But b w w1) (k:But b w1 w2):But b w w2 :=
 ⟨k.os.trans h.os,k.tape.trans h.tape,k.output.trans h.output,Nat.le_trans h.size k.size,fun i hi hn=>(k.block i (Nat.lt_of_lt_of_le hi h.size) hn).trans (h.block i hi hn)⟩
theorem But.of {b:Nat} {w w1:World} (h:Below w.heap.size w w1):But b w w1:=⟨h.os,h.tape,h.output,h.size,fun k hk _=>h.block k hk⟩
theorem But.next {b:Nat} {w w1 w2:World} (h:But b w w1) (k:Below w1.heap.size w1 w2):But b w w2:=h.trans (.of k)
theorem But.set {b o:Nat} {w w1:World} (h:But b w w1) (v:Value):But b w (w1.setCell ⟨b,o,none⟩ v) :=
 h.trans ⟨rfl,rfl,rfl,by simp [World.setCell],fun k hk hn=>Below.heap_setCell w1 ⟨b,o,none⟩ v k hn⟩
theorem But.setNew {b g o:Nat} {w w1:World} (h:But b w w1) (hg:w.heap.size≤g) (v:Value):But b w (w1.setCell ⟨g,o,none⟩ v) :=
 ⟨h.os,h.tape,h.output,by have:=h.size;simpa [World.setCell] using this,fun k hk hn=>(Below.heap_setCell w1 ⟨g,o,none⟩ v k (by show k≠g;omega)).trans (h.block k hk hn)⟩
theorem But.alloc {b:Nat} {w w1:World} (h:But b w w1) (o:Obj):But b w (w1.alloc o):=h.next (bl_new _ _)
theorem But.below {b B:Nat} {w w1:World} (h:But b w w1) (hB:B≤b) (hb:b<w.heap.size):Below B w w1:=⟨h.os,h.tape,h.output,h.size,fun k hk=>h.block k (by omega) (by omega)⟩
theorem But.down {b:Nat} {w w0 w1:World} (h0:Below w.heap.size w w0) (hb:w.heap.size≤b) (h:But b w0 w1):Below w.heap.size w w1 :=
 ⟨h.os.trans h0.os,h.tape.trans h0.tape,h.output.trans h0.output,Nat.le_trans h0.size h.size,fun k hk=>(h.block k (Nat.lt_of_lt_of_le hk h0.size) (by omega)).trans (h0.block k hk)⟩
theorem Bx.but {b g:Nat} {w w1:World} {vs:List Value} (h:Bx w g vs) (hb:But b w w1) (hne:g≠b):Bx w1 g vs:=by
 have e:=hb.block g h.1 hne
 exact ⟨Nat.lt_of_lt_of_le h.1 hb.size,fun j v hj=>by rw [World.cell?_of_block (w:=w) (a:=⟨g,j,none⟩) e];exact h.2.1 j v hj,fun j=>by rw [World.frozen?_of_block (w:=w) (a:=⟨g,j,none⟩) e];exact h.2.2 j⟩
section
variable {g:Nat} {w w':World} {b:Nat} {e:TypeId} {A:Option Addr} {n c s:Nat} {xs:List Value}
theorem But.drew (h:But g w w'):But g w w'.drew:=h.next (bl_drew (bl_refl w'))
theorem ow_but (h:Ow w b e A n c xs) (hg:g<b) (k:But g w w'):Ow w' b e A n c xs:=by
 refine ⟨Nat.le_trans h.1 k.size,h.2.1,?_⟩
 rcases h.2.2 with h' | ⟨g0,cap,cur,e1,e2,e3,e4⟩
 ·exact .inl h'
 ·refine .inr ⟨g0,cap,cur,e1,e2,?_,e4⟩
  have hg0:g0<w.heap.size:=(h.2.lt g0 (by rw [e1];rfl)).2
  exact (k.block g0 hg0 (by omega)).trans e3
theorem ok_but (h:Ok s w b e A n c xs) (hg:g<b) (k:But g w w'):Ok s w' b e A n c xs:=by
 refine ⟨Nat.le_trans h.1 k.size,h.2.1,?_⟩
 rcases h.2.2 with h' | ⟨g0,cap,cur,e1,e2,e3,e4⟩
 ·exact .inl h'
 ·refine .inr ⟨g0,cap,cur,e1,e2,?_,e4⟩
  have hg0:g0<w.heap.size:=(h.2.lt g0 (by rw [e1];rfl)).2
  exact (k.block g0 hg0 (by omega)).trans e3
theorem OwBk.but {S:BkS} {bk:Bk} (h:OwBk w b S bk) (hg:g<b) (k:But g w w'):OwBk w' b S bk :=
 ⟨ow_but h.ti hg k,ow_but h.ix hg k,ok_but h.ty hg k,ow_but h.ch hg k,ok_but h.lp hg k,ow_but h.sd hg k,ow_but h.ut hg k,h.ok⟩
theorem ro_but {g':Nat} {vs:Array Value} {T:TypeId} (h:Ro w g' vs T) (k:But g w w') (hn:g'≠g):Ro w' g' vs T:=(k.block g' h.lt hn).trans h
theorem rd_but {gr n:Nat} {xs:List Value} (h:Rd w (some ⟨gr,0,none⟩) n xs) (k:But g w w') (hn:gr≠g):Rd w' (some ⟨gr,0,none⟩) n xs :=
 ⟨h.1,fun hp=>by
  obtain ⟨ad,e,hc⟩:=h.2 hp
  cases e
  refine ⟨_,rfl,fun i v hi=>?_⟩
  have h1:=hc i v hi
  rw [addr_flat,Nat.zero_add] at h1 ⊢
  rw [← h1]
  exact World.cell?_of_block (w:=w) (a:=⟨gr,i,none⟩) (k.block gr (cell_lt h1) hn)⟩
end
def mkS (l:List UInt8):ByteArray:=⟨l.toArray⟩
abbrev byt (s:ByteArray):List UInt8:=s.data.toList
theorem byt_mk (l:List UInt8):byt (mkS l)=l:=by simp [byt,mkS]
theorem mk_byt (s:ByteArray):mkS (byt s)=s:=by cases s;simp [mkS]
theorem byt_inj {a b:ByteArray}:byt a=byt b ↔ a=b:=⟨fun h=>by rw [← mk_byt a,h,mk_byt],fun h=>by rw [h]⟩
theorem len_byt (s:ByteArray):(byt s).length=s.size:=by simp [byt]
theorem size_mk (l:List UInt8):(mkS l).size=l.length:=by simp [mkS,ByteArray.size]
theorem get_byt (s:ByteArray) (k:Nat) (h:k<s.size):(byt s)[k]'(by rw [len_byt];exact h)=s[k]:=by simp [byt];rfl
theorem tw_lt {p:UInt8→Bool}:∀ {l:List UInt8} {k:Nat} (h:k<(l.takeWhile p).length) (hk:k<l.length),p l[k]=true
 | [],_,h,_=>by simp at h
 | a :: l,k,h,hk=>by
   by_cases ha:p a=true
   ·rw [List.takeWhile_cons_of_pos ha] at h
    cases k with
    | zero=>exact ha
    | succ k =>
      simp only [List.getElem_cons_succ]
      exact tw_lt (by simpa using h) (by simpa using hk)
   ·rw [List.takeWhile_cons_of_neg ha] at h
    simp at h
theorem tw_le (p:UInt8→Bool) (l:List UInt8):(l.takeWhile p).length≤l.length:=(List.takeWhile_sublist _).length_le
theorem tw_at {p:UInt8→Bool}:∀ {l:List UInt8} (h:(l.takeWhile p).length<l.length),p (l[(l.takeWhile p).length]'h)=false
 | [],h=>by simp at h
 | a :: l,h=>by
   by_cases ha:p a=true
   ·have e:(List.takeWhile p (a :: l))=a :: List.takeWhile p l:=List.takeWhile_cons_of_pos ha
    have h':(l.takeWhile p).length<l.length:=by rw [e] at h;simpa using h
    simp only [e,List.length_cons,List.getElem_cons_succ]
    exact tw_at h'
   ·have e:(List.takeWhile p (a :: l))=[]:=List.takeWhile_cons_of_neg ha
    simp only [e,List.length_nil,List.getElem_cons_zero]
    simpa using ha
theorem take_tw {p:UInt8→Bool} (l:List UInt8):l.take (l.takeWhile p).length=l.takeWhile p:=by
 induction l with
 | nil=>rfl
 | cons a l ih =>
   by_cases ha:p a=true
   ·rw [List.takeWhile_cons_of_pos ha];simp [ih]
   ·rw [List.takeWhile_cons_of_neg ha];simp
theorem all_tw {p:UInt8→Bool} (l:List UInt8):l.all p=decide ((l.takeWhile p).length=l.length):=by
 induction l with
 | nil=>rfl
 | cons a l ih =>
   by_cases ha:p a=true
   ·rw [List.takeWhile_cons_of_pos ha];simp [ih,ha]
   ·rw [List.takeWhile_cons_of_neg ha];simp [ha]
theorem byt_extract (s:ByteArray) (a b:Nat):byt (s.extract a b)=((byt s).take b).drop a:=by
 simp [byt,ByteArray.data_extract,Array.toList_extract,List.extract_eq_drop_take']
theorem byt_append (s t:ByteArray):byt (s++t)=byt s++byt t:=by simp [byt]
theorem seq_ne {a b:ByteArray} (h:¬ a=b):(a.toList == b.toList)=false:=by
 rw [ByteArray.toList_eq,ByteArray.toList_eq]
 simp only [beq_eq_false_iff_ne,ne_eq]
 exact fun e=>h (byt_inj.1 e)
theorem seq_eq {a b:ByteArray} (h:a=b):(a.toList == b.toList)=true:=by rw [h];simp
def dsA (x:Int):Bool:=decide (x=43) || decide (x=45) || (decide (48≤x) && decide (x≤57)) || (decide (65≤x) && decide (x≤90)) || (decide (97≤x) && decide (x≤122))
def dsG (x:Int):Bool:=decide (x=0) || dsA x
def badL (xs:List Int):Int:=if (xs.takeWhile dsG).length<xs.length then ((xs.takeWhile dsG).length:Int) else if xs.getLast?=some 0 then -1 else xs.length
def nz (x:Int):Bool:=decide (¬ x=0)
def nameL (xs:List Int) (i:Nat):List Int:=(xs.drop i).takeWhile nz
def bS (l:List Int):ByteArray:=mkS (l.map (fun x=>UInt8.ofNat x.toNat))
def IsB (xs:List Int):Prop:=∀ x ∈ xs,0≤x∧x<256
theorem twi_facts (p:Int→Bool) (xs:List Int):∃ q,(xs.takeWhile p).length=q∧q≤xs.length∧(∀ k x,k<q→xs[k]?=some x→p x=true)∧(∀ x,xs[q]?=some x→p x=false):=by
 induction xs with
 | nil=>exact ⟨0,rfl,Nat.le_refl _,fun k x h=>by omega,fun x h=>by simp at h⟩
 | cons a l ih =>
   obtain ⟨q,h1,h2,h3,h4⟩:=ih
   by_cases ha:p a=true
   ·refine ⟨q+1,by rw [List.takeWhile_cons_of_pos ha];simp [h1],by simp;omega,fun k x hk hx=>?_,fun x hx=>h4 x (by simpa using hx)⟩
    cases k with
    | zero=>simp at hx;subst hx;exact ha
    | succ k=>exact h3 k x (by omega) (by simpa using hx)
   ·refine ⟨0,by rw [List.takeWhile_cons_of_neg ha];rfl,by simp,fun k x hk=>by omega,fun x hx=>?_⟩
    simp at hx
    subst hx
    simpa using ha
theorem badL_iff (xs:List Int):badL xs=-1 ↔ (∀ x ∈ xs,dsG x=true)∧xs.getLast?=some 0:=by
 obtain ⟨q,h1,h2,h3,h4⟩:=twi_facts dsG xs
 unfold badL
 rw [h1]
 by_cases hq:q<xs.length
 ·rw [if_pos hq]
  refine ⟨fun h=>by omega,fun h=>?_⟩
  have h5:xs[q]?=some xs[q]:=List.getElem?_eq_getElem hq
  have:=h4 _ h5
  rw [h.1 _ (List.getElem_mem hq)] at this
  cases this
 ·rw [if_neg hq]
  have hall:∀ x ∈ xs,dsG x=true:=by
   intro x hx
   obtain ⟨k,hk,rfl⟩:=List.getElem_of_mem hx
   exact h3 k _ (by omega) (List.getElem?_eq_getElem hk)
  by_cases hl:xs.getLast?=some 0
  ·rw [if_pos hl];exact ⟨fun _=>⟨hall,hl⟩,fun _=>rfl⟩
  ·rw [if_neg hl]
   exact ⟨fun h=>by omega,fun h=>absurd h.2 hl⟩
def cntOk (b:Bk):Bool:=decide (b.ix.length=b.ti.length) && !decide (b.ty.length=0) && !decide (b.ch.length=0) && (decide (b.sd.length=0) || decide (b.sd.length=b.ty.length)) && (decide (b.ut.length=0) || decide (b.ut.length=b.ty.length))
def ixOk (n:Nat) (l:List Int):Bool:=l.all fun v=>decide (v<(n:Int))
def vB (b:Bk) (four:Bool) (k:Nat):Int :=
 if cntOk b=false then 6 else if fT k b.ti=false then 18 else if lfit k b.lp=false then 18 else if desc b.ti≠-1 then 7 else if ixOk b.ty.length b.ix=false then 8
 else if chk b.ty b.ch.length≠0 then chk b.ty b.ch.length else if badL b.ch≠-1 then 11 else if vL b.lp four=false then 12 else if cn b.sd b.ut=false then 13 else 0
theorem ix_step (n:Nat) (l:List Int) (i:Nat) (x:Int) (h:l[i]?=some x):ixOk n (l.take (i+1))=(ixOk n (l.take i) && decide (x<(n:Int))):=by
 unfold ixOk
 rw [List.take_add_one,h,List.all_append]
 simp
theorem ix_no {n:Nat} {l:List Int} {i:Nat} {x:Int} (h:l[i]?=some x) (hf:(n:Int)≤x):ixOk n l=false:=by
 rw [← Bool.not_eq_true]
 intro e
 have:=List.all_eq_true.1 e x (List.mem_of_getElem? h)
 simp at this
 omega
structure BOk (b:Bk) (four:Bool) (k:Nat):Prop where
 cnt:cntOk b=true
 ti:fT k b.ti=true
 lf:lfit k b.lp=true
 asc:desc b.ti=-1
 ix:ixOk b.ty.length b.ix=true
 ty:chk b.ty b.ch.length=0
 ch:badL b.ch=-1
 lp:vL b.lp four=true
 cn:cn b.sd b.ut=true
theorem vB_iff (b:Bk) (four:Bool) (k:Nat):vB b four k=0 ↔ BOk b four k:=by
 unfold vB
 constructor
 ·intro h
  repeat' (split at h;first | (exfalso;revert h;decide) | (exfalso;omega) | skip)
  rename_i h1 h2 h3 h4 h5 h6 h7 h8 h9
  exact ⟨by simpa using h1,by simpa using h2,by simpa using h3,by simpa using h4,by simpa using h5,by simpa using h6,by simpa using h7,by simpa using h8,by simpa using h9⟩
 ·rintro ⟨h1,h2,h3,h4,h5,h6,h7,h8,h9⟩
  simp [h1,h2,h3,h4,h5,h6,h7,h8,h9]
theorem lfit_8 {ts:List LP} (h:∀ t ∈ ts,lpOk t):lfit 8 ts=true:=by
 unfold lfit fitsB
 rw [List.all_eq_true]
 intro t ht
 simp
theorem BOk.wide {b:Bk} {four:Bool} {k:Nat} (h:BOk b four k) (hb:b.ok):BOk b four 8:=⟨h.cnt,fT_8 _,lfit_8 hb.lp,h.asc,h.ix,h.ty,h.ch,h.lp,h.cn⟩
def alphaI (x:Int):Bool:=(decide (65≤x) && decide (x≤90)) || (decide (97≤x) && decide (x≤122))
def alpha (c:UInt8):Bool:=alphaI c.toNat
def nameI (x:Int):Bool:=alphaI x || (decide (48≤x) && decide (x≤57)) || decide (x=43) || decide (x=45)
def nameB (c:UInt8):Bool:=nameI c.toNat
def nameOk (l:List UInt8):Bool:=decide (3≤l.length) && decide (l.length≤255) && l.all nameB
def letters (l:List UInt8):Nat:=(l.takeWhile alpha).length
def not62 (c:UInt8):Bool:=decide (¬ (c.toNat:Int)=62)
def tnParse (l:List UInt8):Option (List UInt8 × Nat) :=
 match l with
 | []=>none
 | a :: t =>
   if a.toNat=60 then
    let q:=t.takeWhile not62
    if q.length<t.length∧nameOk q then some (q,q.length+2) else none
   else
    let q:=l.takeWhile alpha
    if nameOk q then some (q,q.length) else none
def tnRes (r:Option (List UInt8 × Nat)):Value :=
 match r with
 | none=>.tuple #[.string ⟨#[]⟩,.int .i64 0,.bool false]
 | some (q,n)=>.tuple #[.string (mkS q),.int .i64 n,.bool true]
theorem retV {a b:Value} (h:a=b):Ending.returned a=.returned b:=by rw [h]
namespace r7_
end r7_
theorem nameOk_iff {l:List UInt8}:nameOk l=true ↔ 3≤l.length∧l.length≤255∧∀ c ∈ l,nameB c=true:=by
 unfold nameOk
 simp [and_assoc]
theorem tnParse_some {l a:List UInt8} {n:Nat} (h:tnParse l=some (a,n)):nameOk a=true∧n≤l.length∧3≤n∧(l.take n=a∨l.take n=60 :: (a++[62])):=by
 cases l with
 | nil=>simp [tnParse] at h
 | cons c t =>
   unfold tnParse at h
   simp only at h
   split at h
   ·rename_i h60
    split at h
    ·rename_i hq
     cases h
     obtain ⟨hq,hn⟩:=hq
     have h3:=(nameOk_iff.1 hn).1
     refine ⟨hn,by simp;omega,by omega,.inr ?_⟩
     have e1:=take_tw (p:=not62) t
     have e2:=tw_at (p:=not62) hq
     rw [show c=60 from UInt8.toNat_inj.1 (by rw [h60];rfl)]
     rw [List.take_succ_cons]
     congr 1
     rw [List.take_succ_eq_append_getElem hq,e1]
     congr 2
     have e3:=Decidable.not_not.1 (of_decide_eq_false e2)
     exact UInt8.toNat_inj.1 (by have:(62:UInt8).toNat=62:=rfl;omega)
    ·cases h
   ·split at h
    ·rename_i hn
     cases h
     refine ⟨hn,tw_le _ _,(nameOk_iff.1 hn).1,.inl (take_tw _)⟩
    ·cases h
def dig (c:UInt8):Bool:=decide (48≤(c.toNat:Int)) && decide ((c.toNat:Int)≤57)
def hdig (l:List UInt8):Bool:=match l with | []=>false | c :: _=>dig c
def dval (l:List UInt8):Int:=l.foldl (fun h c=>10 * h+c.toNat - 48) 0
def hmsField (l:List UInt8):Int :=
 match l with
 | c :: a :: b :: _=>if (c.toNat:Int)=58∧dig a∧dig b∧10 * ((a.toNat:Int) - 48)+b.toNat - 48≤59 then 10 * ((a.toNat:Int) - 48)+b.toNat - 48 else -1
 | _=>-1
def hmsTail (l:List UInt8):Int × Nat :=
 if 0≤hmsField l then (if 0≤hmsField (l.drop 3) then (60 * hmsField l+hmsField (l.drop 3),6) else (60 * hmsField l,3)) else (0,0)
def hmsBody (l:List UInt8):Option (Int × Nat) :=
 let d:=l.takeWhile dig
 if 1≤d.length∧d.length≤3∧dval d≤167 then some (3600 * dval d+(hmsTail (l.drop d.length)).1,d.length+(hmsTail (l.drop d.length)).2) else none
def hmsParse (l:List UInt8):Option (Int × Nat) :=
 match l with
 | []=>none
 | c :: t=>if (c.toNat:Int)=43 then (hmsBody t).map fun p=>(p.1,p.2+1) else if (c.toNat:Int)=45 then (hmsBody t).map fun p=>(- p.1,p.2+1) else hmsBody (c :: t)
def hmsRes (r:Option (Int × Nat)):Value :=
 match r with
 | none=>.tuple #[.int .i64 0,.int .i64 0,.bool false]
 | some (v,n)=>.tuple #[.int .i64 v,.int .i64 n,.bool true]
theorem retS2 {a b:ByteArray} (h:a=b):Ending.returned (.string a)=.returned (.string b):=by rw [h]
theorem retV' {a b:Value} (h:a=b):Ending.returned a=.returned b:=by rw [h]
theorem drop_cons {s:ByteArray} {i:Nat} {c:UInt8} {t:List UInt8} (h:(byt s).drop i=c :: t):∃ hi:i<s.size,s[i]=c∧(byt s).drop (i+1)=t:=by
 have hl:i<(byt s).length:=by
  rcases Nat.lt_or_ge i (byt s).length with h' | h'
  ·exact h'
  ·rw [List.drop_of_length_le h'] at h;cases h
 rw [List.drop_eq_getElem_cons hl] at h
 injection h with h1 h2
 exact ⟨by rw [← len_byt];exact hl,by rw [← get_byt];exact h1,h2⟩
theorem drop_nil {s:ByteArray} {i:Nat} (h:(byt s).drop i=[]):s.size≤i:=by rw [List.drop_eq_nil_iff,len_byt] at h;exact h
theorem dval_snoc (l:List UInt8) (c:UInt8):dval (l++[c])=10 * dval l+c.toNat - 48:=by simp [dval]
theorem dval_bd:∀ (k:Nat) (l:List UInt8),l.length≤k→(∀ c ∈ l,dig c=true)→k≤3→0≤dval l∧dval l≤999∧(l.length≤2→dval l≤99)∧(l.length≤1→dval l≤9):=by
 intro k l hl hd hk
 have hb:∀ c ∈ l,48≤(c.toNat:Int)∧(c.toNat:Int)≤57:=fun c hc=>by have:=hd c hc;unfold dig at this;simpa using this
 match l,hl,hb with
 | [],_,_=>simp [dval]
 | [a],_,hb=>have:=hb a (by simp);simp [dval];omega
 | [a,b],_,hb=>have:=hb a (by simp);have:=hb b (by simp);simp [dval];omega
 | [a,b,c],_,hb=>have:=hb a (by simp);have:=hb b (by simp);have:=hb c (by simp);simp [dval];omega
 | a :: b :: c :: d :: t,hl,_=>simp at hl;omega
theorem hmsField_bd (l:List UInt8):-1≤hmsField l∧hmsField l≤59:=by
 unfold hmsField
 split
 ·rename_i c a b t
  split
  ·rename_i h
   obtain ⟨_,ha,hb,h3⟩:=h
   unfold dig at ha hb
   simp at ha hb
   omega
  ·omega
 ·omega
namespace r8_
theorem dig_bd {c:UInt8} (h:dig c=true):48≤(c.toNat:Int)∧(c.toNat:Int)≤57:=by unfold dig at h;simpa using h
theorem hres {r:Value} {v n v':Int} {n':Nat} (hr:r=hmsRes (some (v',n'))) (hv:v=v') (hn:n=n'):Ending.returned (.tuple #[.int .i64 v,.int .i64 n,.bool true])=.returned r:=by rw [hr,hv,hn];rfl
theorem tw_all' {p:UInt8→Bool} {l:List UInt8} {c:UInt8} (h:c ∈ l.takeWhile p):p c=true:=by
 induction l with
 | nil=>simp at h
 | cons a l ih =>
   by_cases ha:p a=true
   ·rw [List.takeWhile_cons_of_pos ha] at h
    rcases List.mem_cons.1 h with rfl | h
    ·exact ha
    ·exact ih h
   ·rw [List.takeWhile_cons_of_neg ha] at h;simp at h
theorem take_drop {B:List UInt8} {k:Nat} {c:UInt8} {t:List UInt8} (h:B.drop k=c :: t):B.take (k+1)=B.take k++[c]:=by
 have hl:k<B.length:=by
  rcases Nat.lt_or_ge k B.length with h' | h'
  ·exact h'
  ·rw [List.drop_of_length_le h'] at h;cases h
 rw [List.drop_eq_getElem_cons hl] at h
 injection h with h1 h2
 rw [List.take_succ_eq_append_getElem hl,h1]
theorem isDigit (s:ByteArray) (i:Nat) (x:Int) (w:World) (hs:s.size≤1000000) (hx:x=i) :
 Calls Tryz.prog 142 #[.string s,.int .i64 x] w fun e w'=>e=.returned (.bool (hdig ((byt s).drop i)))∧w=w':=by
 subst hx
 cases h:(byt s).drop i with
 | nil =>
   have hi:=drop_nil h
   clear h
   go_enter Tryz.func142,Tryz.ntmps142
   go_wp2
   go_ret
   exact ⟨rfl,rfl⟩
 | cons c t =>
   obtain ⟨hi,hc,_⟩:=drop_cons h
   have hb:=c.toNat_lt
   obtain ⟨x,hx⟩:∃ x:Int,(c.toNat:Int)=x:=⟨_,rfl⟩
   rw [← hc] at hx
   have hf:=hide (show hdig (c :: t)=(decide (48≤x) && decide (x≤57)) by unfold hdig dig;rw [← hx,hc])
   rw [hf.out]
   clear h hc hf
   rcases (show x<48∨57<x∨(48≤x∧x≤57) by omega) with h1 | h1 | ⟨h1,h2⟩
   all_goals
    go_enter Tryz.func142,Tryz.ntmps142
    go_wp2
    go_ret
    exact ⟨retb (by rw [Bool.eq_iff_iff];simp;try omega),rfl⟩
theorem field (s:ByteArray) (i:Nat) (x:Int) (w:World) (hs:s.size≤1000000) (hx:x=i) (hi:i≤2000000) :
 Calls Tryz.prog 143 #[.string s,.int .i64 x] w fun e w'=>e=.returned (.int .i64 (hmsField ((byt s).drop i)))∧Below w.heap.size w w':=by
 subst hx
 have D1:=hide (fun w=>isDigit s (i+1) ((i:Int)+1) w hs (by omega))
 have D2:=hide (fun w=>isDigit s (i+2) ((i:Int)+2) w hs (by omega))
 cases h:(byt s).drop i with
 | nil =>
   have hi:=drop_nil h
   clear h D1 D2
   go_enter Tryz.func143,Tryz.ntmps143
   go_wp2
   go_ret
   exact ⟨rfl,bl_refl _⟩
 | cons c t =>
   obtain ⟨hi,hc,ht⟩:=drop_cons h
   obtain ⟨v,hv⟩:∃ v,v=hmsField (c :: t):=⟨_,rfl⟩
   rw [← hv]
   replace hv:=hide hv
   rw [ht] at D1
   rw [show i+2=i+1+1 from rfl,← List.drop_drop,ht] at D2
   have hcb:=c.toNat_lt
   by_cases h58:(c.toNat:Int)=58
   case neg =>
    have hvv:v=-1:=by
     rw [hv.out]
     unfold hmsField
     split
     ·rename_i e;cases e;rw [if_neg (fun h=>h58 h.1)]
     ·rfl
    subst hvv
    obtain ⟨y,hy⟩:∃ y:Int,(c.toNat:Int)=y:=⟨_,rfl⟩
    rw [hy] at h58
    rw [← hc] at hy
    have f1:(y != 58)=true:=by simpa using h58
    clear h D1 D2 hv h58 hc
    go_enter Tryz.func143,Tryz.ntmps143
    go_wp2
    go_ret
    exact ⟨rfl,bl_refl _⟩
   have hy:((s[i]'hi).toNat:Int)=58:=by rw [hc];exact h58
   clear h
   cases t with
   | nil =>
     have hvv:v=-1:=by rw [hv.out];rfl
     subst hvv
     clear hv h58 hc D2
     go_enter Tryz.func143,Tryz.ntmps143
     go_wp2_with fail
     refine (D1.out _).mono ?_
     rintro e w2 ⟨rfl,rfl⟩
     simp only [hdig]
     go_wp2
     go_ret
     exact ⟨rfl,bl_refl _⟩
   | cons a t =>
     obtain ⟨hi1,ha,ht1⟩:=drop_cons ht
     simp only [hdig] at D1
     have hab:=a.toNat_lt
     rcases hda:dig a
     ·have hvv:v=-1:=by
       rw [hv.out]
       unfold hmsField
       split
       ·rename_i e;cases e;rw [if_neg (by simp [hda])]
       ·rfl
      subst hvv
      rw [hda] at D1
      clear hv h58 hc D2
      go_enter Tryz.func143,Tryz.ntmps143
      go_wp2_with fail
      refine (D1.out _).mono ?_
      rintro e w2 ⟨rfl,rfl⟩
      go_wp2
      go_ret
      exact ⟨rfl,bl_refl _⟩
     rw [hda] at D1
     cases t with
     | nil =>
       have hvv:v=-1:=by rw [hv.out];rfl
       subst hvv
       clear hv h58 hc
       simp only [List.drop_succ_cons,List.drop_zero,hdig] at D2
       go_enter Tryz.func143,Tryz.ntmps143
       go_wp2_with fail
       refine (D1.out _).mono ?_
       rintro e w2 ⟨rfl,rfl⟩
       go_wp2_with fail
       refine (D2.out _).mono ?_
       rintro e w2 ⟨rfl,rfl⟩
       go_wp2
       go_ret
       exact ⟨rfl,bl_refl _⟩
     | cons b t =>
       obtain ⟨hi2,hb,_⟩:=drop_cons ht1
       simp only [List.drop_succ_cons,List.drop_zero,hdig] at D2
       have hbb:=b.toNat_lt
       rcases hdb:dig b
       ·have hvv:v=-1:=by
         rw [hv.out]
         unfold hmsField
         simp only
         rw [if_neg (by simp [hdb])]
        subst hvv
        rw [hdb] at D2
        clear hv h58 hc
        go_enter Tryz.func143,Tryz.ntmps143
        go_wp2_with fail
        refine (D1.out _).mono ?_
        rintro e w2 ⟨rfl,rfl⟩
        go_wp2_with fail
        refine (D2.out _).mono ?_
        rintro e w2 ⟨rfl,rfl⟩
        go_wp2
        go_ret
        exact ⟨rfl,bl_refl _⟩
       rw [hdb] at D2
       obtain ⟨A,hA⟩:∃ A:Int,(a.toNat:Int)=A:=⟨_,rfl⟩
       obtain ⟨B,hB⟩:∃ B:Int,(b.toNat:Int)=B:=⟨_,rfl⟩
       have hA1:=dig_bd hda
       have hB1:=dig_bd hdb
       have hvv:=hv.out
       unfold hmsField at hvv
       simp only at hvv
       rw [hda,hdb,hA,hB,h58] at hvv
       rw [hA] at hA1
       rw [hB] at hB1
       rw [← ha] at hA
       rw [← hb] at hB
       have hA2:((s[i+1]'hi1).toNat:Int)=A:=hA
       have hB2:((s[i+2]'(by omega)).toNat:Int)=B:=hB
       have j1:(i:Int)+1<(s.size:Int):=by omega
       have j2:(i:Int)+2<(s.size:Int):=by omega
       have j3:(0:Int)≤(i:Int)+1:=by omega
       have j4:(0:Int)≤(i:Int)+2:=by omega
       obtain ⟨A0,A1⟩:=hA1
       obtain ⟨B0,B1⟩:=hB1
       clear hv h58 hc hda hdb ht ht1 hA hB hab hbb hcb ha hb
       by_cases hle:10 * (A - 48)+B - 48≤59
       ·rw [if_pos ⟨rfl,rfl,rfl,hle⟩] at hvv
        replace hvv:=hide hvv
        go_enter Tryz.func143,Tryz.ntmps143
        go_wp2_with fail
        refine (D1.out _).mono ?_
        rintro e w2 ⟨rfl,rfl⟩
        go_wp2_with fail
        refine (D2.out _).mono ?_
        rintro e w2 ⟨rfl,rfl⟩
        go_wp2
        go_region
        go_wp2
        go_ret
        exact ⟨reti hvv.out.symm,bl_drew (bl_refl _)⟩
       ·rw [if_neg (fun h=>hle h.2.2.2)] at hvv
        subst hvv
        go_enter Tryz.func143,Tryz.ntmps143
        go_wp2_with fail
        refine (D1.out _).mono ?_
        rintro e w2 ⟨rfl,rfl⟩
        go_wp2_with fail
        refine (D2.out _).mono ?_
        rintro e w2 ⟨rfl,rfl⟩
        go_wp2
        go_region
        go_wp2
        go_ret
        exact ⟨rfl,bl_drew (bl_refl _)⟩
--@PARSE
end r8_
def dg (x:Int):UInt8:=UInt8.ofNat (48+x).toNat
def d2 (x:Int):List UInt8:=[dg (x / 10),dg (x % 10)]
def hh (h:Int):List UInt8:=(if 100≤h then [49] else [])++((if 10≤h then [dg (h / 10 % 10)] else [])++[dg (h % 10)])
def hmsAbs (x:Int):List UInt8:=hh (x / 3600)++((if 0<x % 3600 then 58 :: d2 (x / 60 % 60) else [])++(if 0<x % 60 then 58 :: d2 (x % 60) else []))
def hmsFmt (x:Int):List UInt8:=if x<0 then 45 :: hmsAbs (-x) else hmsAbs x
theorem dg_toNat {x:Int} (h0:0≤x) (h1:x≤9):((dg x).toNat:Int)=48+x:=by
 unfold dg
 simp
 omega
namespace r8_
--@FORMAT
end r8_
theorem hh_val {h:Int} (h0:0≤h) (h1:h≤167):dval (hh h)=h∧1≤(hh h).length∧(hh h).length≤3∧(h<100→(hh h).length≤2)∧(h<10→(hh h).length≤1):=by
 have d1:=dg_toNat (x:=h / 10 % 10) (by omega) (by omega)
 have d2:=dg_toNat (x:=h % 10) (by omega) (by omega)
 have e49:((49:UInt8).toNat:Int)=49:=rfl
 unfold hh dval
 by_cases ha:100≤h
 ·rw [if_pos ha,if_pos (show 10≤h by omega)]
  simp [d1,d2]
  omega
 ·rw [if_neg ha]
  by_cases hb:10≤h
  ·rw [if_pos hb]
   simp [d1,d2]
   omega
  ·rw [if_neg hb]
   simp [d2]
   omega
theorem tw_app' {p:UInt8→Bool} {a b:List UInt8} (ha:∀ c ∈ a,p c=true) (hb:b=[]∨∃ x t,b=x :: t∧p x=false):(a++b).takeWhile p=a:=by
 rw [List.takeWhile_append_of_pos ha]
 rcases hb with rfl | ⟨x,t,rfl,hx⟩
 ·simp
 ·rw [List.takeWhile_cons_of_neg (by simp [hx])]
  simp
theorem body_of {d m:List UInt8} (hd:∀ c ∈ d,dig c=true) (hm:m=[]∨∃ x t,m=x :: t∧dig x=false) (h1:1≤d.length) (h3:d.length≤3) (hv:dval d≤167) :
 hmsBody (d++m)=some (3600 * dval d+(hmsTail m).1,d.length+(hmsTail m).2):=by
 have e:=tw_app' hd hm
 have e2:(d++m).drop d.length=m:=by simp
 simp only [hmsBody,e,e2]
 rw [if_pos ⟨h1,h3,hv⟩]
theorem d2_len (x:Int):(d2 x).length=2:=rfl
theorem parse_plus (l:List UInt8):hmsParse (43 :: l)=(hmsBody l).map fun p=>(p.1,p.2+1):=by
 unfold hmsParse
 simp only
 rw [if_pos (show ((43:UInt8).toNat:Int)=43 from rfl)]
theorem parse_minus (l:List UInt8):hmsParse (45 :: l)=(hmsBody l).map fun p=>(- p.1,p.2+1):=by
 unfold hmsParse
 simp only
 rw [if_neg (show ¬ ((45:UInt8).toNat:Int)=43 by decide),if_pos (show ((45:UInt8).toNat:Int)=45 from rfl)]
theorem field_take (m:List UInt8) (k:Nat):hmsField (m.take (k+3))=hmsField m:=by
 match m with
 | []=>rfl
 | [a]=>rfl
 | [a,b]=>rfl
 | a :: b :: c :: r=>rfl
theorem field_len {m:List UInt8} (h:0≤hmsField m):3≤m.length∧∃ t,m=58 :: t:=by
 match m,h with
 | [],h=>simp [hmsField] at h
 | [a],h=>simp [hmsField] at h
 | [a,b],h=>simp [hmsField] at h
 | a :: b :: c :: r,h =>
   refine ⟨by simp,b :: c :: r,?_⟩
   unfold hmsField at h
   simp only at h
   split at h
   ·rename_i h'
    rw [show a=58 from UInt8.toNat_inj.1 (by have:=h'.1;have e:(58:UInt8).toNat=58:=rfl;omega)]
   ·omega
theorem tail_take (m:List UInt8):(hmsTail m).2≤m.length∧hmsTail (m.take (hmsTail m).2)=hmsTail m∧0≤(hmsTail m).1∧(hmsTail m).1<3600∧(0<(hmsTail m).1→3≤(hmsTail m).2)∧(0<(hmsTail m).1 % 60→(hmsTail m).2=6)
 ∧ (m.take (hmsTail m).2=[]∨∃ x t,m.take (hmsTail m).2=x :: t∧dig x=false):=by
 have b1:=hmsField_bd m
 have b2:=hmsField_bd (m.drop 3)
 by_cases h1:0≤hmsField m
 ·obtain ⟨l1,t,ht⟩:=field_len h1
  by_cases h2:0≤hmsField (m.drop 3)
  ·obtain ⟨l2,_⟩:=field_len h2
   have e:hmsTail m=(60 * hmsField m+hmsField (m.drop 3),6):=by unfold hmsTail;rw [if_pos h1,if_pos h2]
   rw [e]
   have e2:(m.take 6).drop 3=(m.drop 3).take 3:=by rw [List.drop_take]
   refine ⟨by simp at l2;simp;omega,?_,by simp;omega,by simp;omega,by simp,by simp,.inr ⟨58,t.take 5,by rw [ht];rfl,rfl⟩⟩
   unfold hmsTail
   rw [show hmsField (m.take 6)=hmsField m from field_take m 3,e2,show hmsField ((m.drop 3).take 3)=hmsField (m.drop 3) from field_take _ 0,if_pos h1,if_pos h2]
  ·have e:hmsTail m=(60 * hmsField m,3):=by unfold hmsTail;rw [if_pos h1,if_neg h2]
   rw [e]
   have e2:(m.take 3).drop 3=[]:=by rw [List.drop_take];simp
   refine ⟨l1,?_,by simp <;> omega,by simp <;> omega,by simp,by simp <;> omega,.inr ⟨58,t.take 2,by rw [ht];rfl,rfl⟩⟩
   unfold hmsTail
   rw [show hmsField (m.take 3)=hmsField m from field_take m 0,e2,if_pos h1,if_neg (by decide)]
 ·have e:hmsTail m=(0,0):=by unfold hmsTail;rw [if_neg h1]
  rw [e]
  exact ⟨by simp,rfl,by simp,by simp,by simp,by simp,.inl rfl⟩
theorem body_prefix {l:List UInt8} {v:Int} {k:Nat} (h:hmsBody l=some (v,k)):1≤k∧k≤l.length∧0≤v∧v<604800∧hmsBody (l.take k)=some (v,k)∧(hmsAbs v).length≤k:=by
 obtain ⟨d,hd⟩:∃ d,d=l.takeWhile dig:=⟨_,rfl⟩
 obtain ⟨m,hm⟩:∃ m,m=l.drop d.length:=⟨_,rfl⟩
 have hdd:∀ c ∈ d,dig c=true:=fun c hc=>r8_.tw_all' (p:=dig) (l:=l) (by rw [← hd];exact hc)
 have hl:l=d++m:=by
  have:=take_tw (p:=dig) l
  rw [← hd] at this
  rw [hm,← this]
  simp
  rw [show min d.length l.length=d.length from Nat.min_eq_left (by rw [hd];exact tw_le _ _)]
  simp
 have hb:hmsBody l=if 1≤d.length∧d.length≤3∧dval d≤167 then some (3600 * dval d+(hmsTail m).1,d.length+(hmsTail m).2) else none:=by
  simp only [hmsBody,← hd,← hm]
 rw [hb] at h
 split at h
 ·rename_i hc
  obtain ⟨c1,c2,c3⟩:=hc
  cases h
  obtain ⟨t1,t2,t3,t4,t5,t6,t7⟩:=tail_take m
  obtain ⟨v0,v1,v2,v3⟩:=dval_bd d.length d (by omega) hdd c2
  have hlen:l.length=d.length+m.length:=by rw [hl,List.length_append]
  have htk:l.take (d.length+(hmsTail m).2)=d++m.take (hmsTail m).2:=by
   rw [hl,List.take_append]
   simp
   rw [List.take_of_length_le (by omega)]
  refine ⟨by omega,by omega,by omega,by omega,?_,?_⟩
  ·rw [htk,body_of hdd t7 c1 c2 c3,t2]
  ·obtain ⟨q1,q2,q3,q4,q5⟩:=hh_val (h:=dval d) (by omega) (by omega)
   have e1:(3600 * dval d+(hmsTail m).1) / 3600=dval d:=by omega
   have e2:(3600 * dval d+(hmsTail m).1) % 3600=(hmsTail m).1:=by omega
   have e3:(3600 * dval d+(hmsTail m).1) % 60=(hmsTail m).1 % 60:=by omega
   have hhl:(hh (dval d)).length≤d.length:=by
    by_cases x1:d.length≤1
    ·have:=v3 x1
     have:=q5 (by omega)
     omega
    ·by_cases x2:d.length≤2
     ·have:=v2 x2
      have:=q4 (by omega)
      omega
     ·omega
   unfold hmsAbs
   rw [e1,e2,e3]
   simp only [List.length_append]
   by_cases y1:0<(hmsTail m).1
   ·have:=t5 y1
    by_cases y2:0<(hmsTail m).1 % 60
    ·have:=t6 y2
     rw [if_pos y1,if_pos y2]
     simp [d2_len]
     omega
    ·rw [if_pos y1,if_neg y2]
     simp [d2_len]
     omega
   ·rw [if_neg y1,if_neg (show ¬ 0<(hmsTail m).1 % 60 by omega)]
    simp
    omega
 ·cases h
theorem parse_prefix {l:List UInt8} {a:Int} {n:Nat} (h:hmsParse l=some (a,n)):1≤n∧n≤l.length∧-604800<a∧a<604800∧hmsParse (l.take n)=some (a,n)∧(hmsFmt a).length≤n:=by
 cases l with
 | nil=>cases h
 | cons c t =>
   by_cases h43:(c.toNat:Int)=43
   ·have e43:c=43:=UInt8.toNat_inj.1 (by have e:(43:UInt8).toNat=43:=rfl;omega)
    subst e43
    rw [parse_plus] at h
    cases hb:hmsBody t with
    | none=>rw [hb] at h;cases h
    | some p =>
      obtain ⟨v,k⟩:=p
      rw [hb] at h
      cases h
      obtain ⟨g1,g2,g3,g4,g5,g6⟩:=body_prefix hb
      refine ⟨by omega,by simp;omega,by omega,by omega,?_,?_⟩
      ·rw [List.take_succ_cons,parse_plus,g5];rfl
      ·unfold hmsFmt
       simp only
       rw [if_neg (by omega)]
       omega
   ·by_cases h45:(c.toNat:Int)=45
    ·have e45:c=45:=UInt8.toNat_inj.1 (by have e:(45:UInt8).toNat=45:=rfl;omega)
     subst e45
     rw [parse_minus] at h
     cases hb:hmsBody t with
     | none=>rw [hb] at h;cases h
     | some p =>
       obtain ⟨v,k⟩:=p
       rw [hb] at h
       cases h
       obtain ⟨g1,g2,g3,g4,g5,g6⟩:=body_prefix hb
       refine ⟨by omega,by simp;omega,by simp;omega,by simp;omega,?_,?_⟩
       ·rw [List.take_succ_cons,parse_minus,g5];rfl
       ·unfold hmsFmt
        simp only
        by_cases hv:-v<0
        ·rw [if_pos hv,Int.neg_neg]
         simp
         omega
        ·rw [if_neg hv]
         obtain rfl:v=0:=by omega
         have:(hmsAbs (-0)).length=(hmsAbs 0).length:=rfl
         omega
    ·have e:∀ (u:List UInt8),hmsParse (c :: u)=hmsBody (c :: u):=fun u=>by
      unfold hmsParse
      simp only
      rw [if_neg h43,if_neg h45]
     rw [e] at h
     obtain ⟨g1,g2,g3,g4,g5,g6⟩:=body_prefix h
     obtain ⟨j,rfl⟩:∃ j,n=j+1:=⟨n - 1,by omega⟩
     refine ⟨g1,g2,by omega,by omega,?_,?_⟩
     ·rw [List.take_succ_cons,e,← List.take_succ_cons,g5]
     ·unfold hmsFmt
      rw [if_neg (by omega)]
      exact g6
def leap (y:Int):Bool:=decide (y % 400=0) || (decide (y % 4=0) && decide (y % 100≠0))
theorem leap_iff (y:Int):leap y=true ↔ y % 400=0∨(y % 4=0∧y % 100≠0):=by simp [leap]
theorem leap_not (y:Int):leap y=false ↔ ¬ (y % 400=0∨(y % 4=0∧y % 100≠0)):=by rw [← leap_iff];simp
def ylen (y:Int):Int:=if leap y then 366 else 365
def mdays (y m:Int):Int:=if m=2 then (if leap y then 29 else 28) else if m=4∨m=6∨m=9∨m=11 then 30 else 31
def cum (y:Int):Nat→Int
 | 0=>0
 | k+1=>cum y k+mdays y ((k:Int)+1)
def ystart (y:Int):Int:=365 * y+((y - 1) / 4 - (y - 1) / 100+(y - 1) / 400) - 719527
def yday (y m d:Int):Int:=cum y (m - 1).toNat+d - 1
def days (y m d:Int):Int:=ystart y+yday y m d
def DateOk (y m d:Int):Prop:=1≤m∧m≤12∧1≤d∧d≤mdays y m
def IsDate (n y m d:Int):Prop:=DateOk y m d∧days y m d=n
def Vd (y m d:Int):Prop:=-1099511627776≤y∧y≤1099511627776∧DateOk y m d
instance (y m d:Int):Decidable (Vd y m d):=by unfold Vd DateOk;infer_instance
def loDay:Int:=ystart (-1099511627776)
def hiDay:Int:=ystart 1099511627777 - 1
theorem ylen_bd (y:Int):365≤ylen y∧ylen y≤366:=by unfold ylen;split <;> omega
theorem ystart_succ (y:Int):ystart (y+1)=ystart y+ylen y:=by
 unfold ystart ylen
 split
 ·rename_i h;rw [leap_iff] at h;omega
 ·rename_i h;rw [Bool.not_eq_true,leap_not] at h;omega
theorem leap_per (y k:Int):leap (y+400 * k)=leap y:=by
 unfold leap
 rw [show (y+400 * k) % 400=y % 400 by omega,show (y+400 * k) % 4=y % 4 by omega,show (y+400 * k) % 100=y % 100 by omega]
theorem ylen_per (y k:Int):ylen (y+400 * k)=ylen y:=by unfold ylen;rw [leap_per]
theorem mdays_per (y k m:Int):mdays (y+400 * k) m=mdays y m:=by unfold mdays;rw [leap_per]
theorem cum_per (y k:Int) (m:Nat):cum (y+400 * k) m=cum y m:=by
 induction m with
 | zero=>rfl
 | succ m ih=>simp only [cum,ih,mdays_per]
theorem ystart_per (y k:Int):ystart (y+400 * k)=ystart y+146097 * k:=by unfold ystart;omega
theorem mdays_bd (y m:Int):28≤mdays y m∧mdays y m≤31:=by
 unfold mdays
 split
 ·split <;> omega
 ·split <;> omega
theorem cum12 (y:Int):cum y 12=ylen y:=by
 cases h:leap y <;> simp [cum,mdays,ylen,h]
theorem cum_mono (y:Int) {j k:Nat} (h:j≤k):cum y j≤cum y k:=by
 induction k with
 | zero=>rw [Nat.le_zero.1 h];exact Int.le_refl _
 | succ k ih =>
   rcases Nat.lt_or_ge k j with hk | hk
   ·rw [show j=k+1 by omega];exact Int.le_refl _
   ·have h1:=ih hk
    have h2:=mdays_bd y ((k:Int)+1)
    simp only [cum]
    omega
theorem cum_bd (y:Int) (k:Nat):0≤cum y k∧cum y k≤31 * k:=by
 induction k with
 | zero=>exact ⟨Int.le_refl _,by simp [cum]⟩
 | succ k ih =>
   have h2:=mdays_bd y ((k:Int)+1)
   simp only [cum]
   omega
theorem yday_bd {y m d:Int} (h:DateOk y m d):0≤yday y m d∧yday y m d<ylen y:=by
 obtain ⟨h1,h2,h3,h4⟩:=h
 obtain ⟨k,rfl⟩:∃ k:Nat,m=(k:Int)+1:=⟨(m - 1).toNat,by omega⟩
 have e:((k:Int)+1 - 1).toNat=k:=by omega
 have h5:cum y (k+1)≤cum y 12:=cum_mono y (by omega)
 have h6:=(cum_bd y k).1
 rw [cum12] at h5
 simp only [cum] at h5
 unfold yday
 rw [e]
 omega
theorem ystart_mono {a b:Int} (h:a≤b):ystart a≤ystart b:=by unfold ystart;omega
theorem ystart_lt {a b:Int} (h:a<b):ystart (a+1)≤ystart b:=ystart_mono (by omega)
theorem IsDate.year {n y m d:Int} (h:IsDate n y m d):ystart y≤n∧n<ystart (y+1):=by
 have h1:=yday_bd h.1
 have h2:=ystart_succ y
 have h3:=h.2
 unfold days at h3
 omega
theorem IsDate.month {n y m d:Int} (h:IsDate n y m d):cum y (m - 1).toNat≤n - ystart y∧n - ystart y<cum y ((m - 1).toNat+1)∧d=n - ystart y - cum y (m - 1).toNat+1:=by
 obtain ⟨⟨h1,h2,h3,h4⟩,h5⟩:=h
 have e:(((m - 1).toNat:Nat):Int)+1=m:=by omega
 unfold days yday at h5
 simp only [cum,e]
 omega
theorem IsDate.mk {n y:Int} {k:Nat} (h1:ystart y≤n) (hk:k≤11) (h3:cum y k≤n - ystart y) (h4:n - ystart y<cum y (k+1)):IsDate n y ((k:Int)+1) (n - ystart y - cum y k+1):=by
 refine ⟨⟨by omega,by omega,by omega,?_⟩,?_⟩
 ·simp only [cum] at h4
  omega
 ·unfold days yday
  rw [show ((k:Int)+1 - 1).toNat=k by omega]
  omega
theorem month_ex (y r:Int) (h0:0≤r):∀ K:Nat,r<cum y K→∃ k:Nat,k<K∧cum y k≤r∧r<cum y (k+1)
 | 0,h=>by simp [cum] at h;omega
 | K+1,h=>by
   by_cases hk:r<cum y K
   ·obtain ⟨k,h1,h2⟩:=month_ex y r h0 K hk
    exact ⟨k,by omega,h2⟩
   ·exact ⟨K,by omega,by omega,h⟩
theorem year_ex (n:Int):∃ y,ystart y≤n∧n<ystart (y+1):=by
 have up:∀ K:Nat,∀ y:Int,ystart y≤n→n<ystart (y+K)→∃ y,ystart y≤n∧n<ystart (y+1):=by
  intro K
  induction K with
  | zero=>intro y h1 h2;simp at h2;omega
  | succ K ih =>
    intro y h1 h2
    by_cases h:n<ystart (y+1)
    ·exact ⟨y,h1,h⟩
    ·refine ih (y+1) (by omega) ?_
     rw [show y+1+(K:Int)=y+((K+1:Nat):Int) by omega]
     exact h2
 obtain ⟨q,hq⟩:∃ q,q=(n - ystart 0) / 146097:=⟨_,rfl⟩
 have e1:=ystart_per 0 q
 have e2:=ystart_per 0 (q+1)
 refine up 400 (0+400 * q) ?_ ?_
 ·omega
 ·rw [show 0+400 * q+((400:Nat):Int)=0+400 * (q+1) by omega]
  omega
theorem IsDate.ex (n:Int):∃ y m d,IsDate n y m d:=by
 obtain ⟨y,h1,h2⟩:=year_ex n
 have h3:=ystart_succ y
 obtain ⟨k,h4,h5,h6⟩:=month_ex y (n - ystart y) (by omega) 12 (by rw [cum12];omega)
 exact ⟨y,_,_,IsDate.mk h1 (by omega) h5 h6⟩
theorem days_first (y:Int):days y 1 1=ystart y:=by
 unfold days yday
 rw [show ((1:Int) - 1).toNat=0 from rfl]
 simp [cum]
theorem IsDate.of {y m d:Int} (h:DateOk y m d):IsDate (days y m d) y m d:=⟨h,rfl⟩
theorem Vd.day {y m d:Int} (h:Vd y m d):loDay≤days y m d∧days y m d≤hiDay:=by
 obtain ⟨h1,h2,h3⟩:=h
 obtain ⟨a,b⟩:=(IsDate.of h3).year
 have:=ystart_mono h1
 have:=ystart_mono (show y+1≤1099511627777 by omega)
 unfold loDay hiDay
 omega
theorem IsDate.era {n Y M D k r:Int} (h:IsDate n Y M D) (hk:n - 10957=146097 * k+r) (h0:0≤r) (h1:r<146097) :
 ∃ (q mm:Nat) (yd:Int),Y=2000+400 * k+q∧q<400∧M=(mm:Int)+1∧mm≤11∧r - (ystart (2000+q) - 10957)=yd∧0≤yd∧yd<ylen q∧cum q mm≤yd∧yd<cum q (mm+1)∧D=yd - cum q mm+1:=by
 obtain ⟨a,b⟩:=h.year
 have e1:=ystart_per 2000 k
 have e2:=ystart_per 2000 (k+1)
 have e0:ystart 2000=10957:=rfl
 rw [e0] at e1 e2
 have hq0:2000+400 * k≤Y:=by
  rcases Int.lt_or_le Y (2000+400 * k) with h | h
  ·have:=ystart_lt h;omega
  ·exact h
 have hq1:Y<2000+400 * (k+1):=by
  rcases Int.lt_or_le Y (2000+400 * (k+1)) with h | h
  ·exact h
  ·have:=ystart_mono h;omega
 obtain ⟨q,rfl⟩:∃ q:Nat,Y=2000+400 * k+q:=⟨(Y - (2000+400 * k)).toNat,by omega⟩
 have hM:=h.1.1
 have hM2:=h.1.2.1
 obtain ⟨mm,rfl⟩:∃ mm:Nat,M=(mm:Int)+1:=⟨(M - 1).toNat,by omega⟩
 obtain ⟨c1,c2,c3⟩:=h.month
 rw [show ((mm:Int)+1 - 1).toNat=mm by omega] at c1 c2 c3
 have hs:=ystart_succ (2000+400 * k+q)
 have ec:∀ m,cum (2000+400 * k+q) m=cum q m:=fun m=>by
  rw [show (2000+400 * k+(q:Int))=q+400 * (5+k) by omega,cum_per]
 have el:ylen (2000+400 * k+q)=ylen q:=by rw [show (2000+400 * k+(q:Int))=q+400 * (5+k) by omega,ylen_per]
 have es:ystart (2000+400 * k+q)=ystart (2000+q)+146097 * k:=by
  rw [show (2000+400 * k+(q:Int))=2000+q+400 * k by omega,ystart_per]
 rw [ec] at c1 c2 c3
 rw [el] at hs
 refine ⟨q,mm,r - (ystart (2000+q) - 10957),rfl,by omega,rfl,by omega,rfl,by omega,by omega,by omega,by omega,by omega⟩
def rfirst (y M wd:Int):Int:=days y M 1+(wd - (days y M 1+4)) % 7
def rdm (y M wk wd:Int):Int:=if wk≤4 then rfirst y M wd+7 * (wk - 1) else if rfirst y M wd+28<days y M 1+mdays y M then rfirst y M wd+28 else rfirst y M wd+21
def rdj (y D:Int):Int:=ystart y+D - 1+(if leap y=true∧60≤D then 1 else 0)
def rday (K D M Wk Wd y:Int):Int:=if K=2 then ystart y+D else if K=1 then rdj y D else rdm y M Wk Wd
def RdOk (K D M Wk Wd T:Int):Prop:=-604799≤T∧T≤604799∧((K=1∧1≤D∧D≤365∧M=0∧Wk=0∧Wd=0)∨(K=2∧0≤D∧D≤365∧M=0∧Wk=0∧Wd=0)∨(K=3∧D=0∧1≤M∧M≤12∧1≤Wk∧Wk≤5∧0≤Wd∧Wd≤6))
instance (K D M Wk Wd T:Int):Decidable (RdOk K D M Wk Wd T):=by unfold RdOk;infer_instance
abbrev RD:=Int × Int × Int × Int × Int × Int
def rdOk (d:RD):Prop:=RdOk d.1 d.2.1 d.2.2.1 d.2.2.2.1 d.2.2.2.2.1 d.2.2.2.2.2
instance (d:RD):Decidable (rdOk d):=by unfold rdOk;infer_instance
def rd0:RD:=(0,0,0,0,0,0)
theorem rfirst_bd (y M wd:Int) (h0:0≤wd) (h1:wd≤6):days y M 1≤rfirst y M wd∧rfirst y M wd≤days y M 1+6∧(rfirst y M wd+4) % 7=wd:=by
 unfold rfirst
 omega
theorem rdm_bd (y M wk wd:Int) (h0:0≤wd) (h1:wd≤6) (h2:1≤wk) (h3:wk≤5):days y M 1≤rdm y M wk wd∧rdm y M wk wd<days y M 1+mdays y M∧(rdm y M wk wd+4) % 7=wd:=by
 have h:=rfirst_bd y M wd h0 h1
 have hm:=mdays_bd y M
 unfold rdm
 split
 ·omega
 ·split <;> omega
theorem cum_leap (y:Int) (k:Nat):cum y k=cum 2001 k+(if leap y=true∧2≤k then 1 else 0):=by
 induction k with
 | zero=>simp [cum]
 | succ k ih =>
   have e:mdays y ((k:Int)+1)=mdays 2001 ((k:Int)+1)+(if leap y=true∧k=1 then 1 else 0):=by
    by_cases hk:k=1
    ·subst hk
     cases h:leap y <;> simp [mdays,h,show leap 2001=false from rfl]
    ·have:¬ ((k:Int)+1=2):=by omega
     simp [mdays,this,hk]
   simp only [cum,ih,e]
   cases h:leap y
   ·simp
   ·rcases (show k=0∨k=1∨2≤k by omega) with rfl | rfl | hk
    ·simp
    ·simp;omega
    ·have h1:¬ k=1:=by omega
     have h2:2≤k+1:=by omega
     simp [hk,h1,h2]
     omega
abbrev PR:=List UInt8 × Int × Bool × List UInt8 × Int × RD × RD
def offOk (v:Int):Prop:=-89999≤v∧v≤89999
instance (v:Int):Decidable (offOk v):=by unfold offOk;infer_instance
def prOk (r:PR):Prop:=nameOk r.1=true∧offOk r.2.1∧(if r.2.2.1=true then nameOk r.2.2.2.1=true∧offOk r.2.2.2.2.1∧rdOk r.2.2.2.2.2.1∧rdOk r.2.2.2.2.2.2 else r.2.2.2.1=[]∧r.2.2.2.2.1=0∧r.2.2.2.2.2.1=rd0∧r.2.2.2.2.2.2=rd0)
instance (r:PR):Decidable (prOk r):=by unfold prOk;infer_instance
def ptNum (l:List UInt8):Option (Int × Nat) :=
 if 1≤(l.takeWhile dig).length∧(l.takeWhile dig).length≤3 then some (dval (l.takeWhile dig),(l.takeWhile dig).length) else none
def ptNumP (l:List UInt8):Option (Int × Nat) :=
 match ptNum l with
 | none=>none
 | some (v,n)=>match l.drop n with
   | []=>none
   | c :: _=>if (c.toNat:Int)=46 then some (v,n+1) else none
def ptHead (l:List UInt8):Option ((Int × Int × Int × Int × Int) × Nat) :=
 match l with
 | []=>none
 | c :: t =>
   if (c.toNat:Int)=74 then (match ptNum t with | none=>none | some (v,n)=>some ((1,v,0,0,0),1+n))
   else if (c.toNat:Int)=77 then
    (match ptNumP t with
    | none=>none
    | some (m,i)=>match ptNumP (t.drop i) with
      | none=>none
      | some (w,j)=>match ptNum (t.drop (i+j)) with
        | none=>none
        | some (x,k)=>some ((3,0,m,w,x),1+(i+j)+k))
   else (match ptNum (c :: t) with | none=>none | some (v,n)=>some ((2,v,0,0,0),n))
def ptMk (h:Int × Int × Int × Int × Int) (v:Int):RD:=(h.1,h.2.1,h.2.2.1,h.2.2.2.1,h.2.2.2.2,v)
def ptDay (l:List UInt8):Option (RD × Nat) :=
 match ptHead l with
 | none=>none
 | some (h,n)=>match l.drop n with
   | []=>if rdOk (ptMk h 7200) then some (ptMk h 7200,n) else none
   | c :: t=>if (c.toNat:Int)=47 then (match hmsParse t with
    | none=>none
    | some (v,k)=>if rdOk (ptMk h v) then some (ptMk h v,n+1+k) else none)
     else if rdOk (ptMk h 7200) then some (ptMk h 7200,n) else none
def ptComma (l:List UInt8) (a:Nat):Except Nat (RD × Nat) :=
 match l.drop a with
 | []=>.error a
 | c :: t=>if (c.toNat:Int)=44 then (match ptDay t with | none=>.error (a+1) | some (d,n)=>.ok (d,a+1+n)) else .error a
def ptDays (l:List UInt8) (a:Nat) (std:List UInt8) (so:Int) (dst:List UInt8) (dof:Int):Except Nat PR :=
 match ptComma l a with
 | .error e=>.error e
 | .ok (st,b)=>match ptComma l b with
   | .error e=>.error e
   | .ok (en,c)=>if c=l.length∧offOk dof then .ok (std,so,true,dst,dof,st,en) else .error c
def ptParse (l:List UInt8):Except Nat PR :=
 match tnParse l with
 | none=>.error 0
 | some (std,n)=>match hmsParse (l.drop n) with
   | none=>.error n
   | some (v,m) =>
     if offOk v then
      (if n+m=l.length then .ok (std,-v,false,[],0,rd0,rd0)
      else match tnParse (l.drop (n+m)) with
       | none=>.error (n+m)
       | some (dst,n2)=>match hmsParse (l.drop (n+m+n2)) with
         | none=>ptDays l (n+m+n2) std (-v) dst (-v+3600)
         | some (v2,m2)=>if offOk v2 then ptDays l (n+m+n2+m2) std (-v) dst (-v2) else .error (n+m+n2))
     else .error n
theorem ptNum_some {l:List UInt8} {v:Int} {n:Nat} (h:ptNum l=some (v,n)):1≤n∧n≤3∧n≤l.length∧0≤v∧v≤999:=by
 unfold ptNum at h
 split at h
 ·rename_i hc
  cases h
  have hd:=dval_bd (l.takeWhile dig).length (l.takeWhile dig) (Nat.le_refl _) (fun c hc=>r8_.tw_all' hc) hc.2
  exact ⟨hc.1,hc.2,tw_le _ _,hd.1,hd.2.1⟩
 ·cases h
theorem ptNumP_some {l:List UInt8} {v:Int} {n:Nat} (h:ptNumP l=some (v,n)):2≤n∧n≤l.length∧0≤v∧v≤999:=by
 unfold ptNumP at h
 split at h
 ·cases h
 ·rename_i v' n' hn
  have:=ptNum_some hn
  split at h
  ·cases h
  ·rename_i c t hd
   have hl:n'<l.length:=by
    rcases Nat.lt_or_ge n' l.length with h' | h'
    ·exact h'
    ·rw [List.drop_of_length_le h'] at hd;cases hd
   split at h
   ·cases h
    omega
   ·cases h
theorem ptHead_some {l:List UInt8} {h:Int × Int × Int × Int × Int} {n:Nat} (e:ptHead l=some (h,n)):1≤n∧n≤l.length:=by
 unfold ptHead at e
 split at e
 ·cases e
 ·rename_i c t
  split at e
  ·split at e
   ·cases e
   ·rename_i hn
    have:=ptNum_some hn
    cases e
    simp
    omega
  ·split at e
   ·split at e
    ·cases e
    ·rename_i h1
     have a1:=ptNumP_some h1
     split at e
     ·cases e
     ·rename_i h2
      have a2:=ptNumP_some h2
      split at e
      ·cases e
      ·rename_i h3
       have a3:=ptNum_some h3
       cases e
       simp at a2 a3 ⊢
       omega
   ·split at e
    ·cases e
    ·rename_i hn
     have:=ptNum_some hn
     cases e
     omega
theorem ptDay_some {l:List UInt8} {d:RD} {n:Nat} (e:ptDay l=some (d,n)):1≤n∧n≤l.length∧rdOk d:=by
 unfold ptDay at e
 split at e
 ·cases e
 ·rename_i hd
  have a:=ptHead_some hd
  split at e
  ·split at e
   ·rename_i hr
    cases e
    exact ⟨a.1,a.2,hr⟩
   ·cases e
  ·rename_i c t hdr
   have hl:=congrArg List.length hdr
   simp at hl
   split at e
   ·split at e
    ·cases e
    ·rename_i hh
     have b:=parse_prefix hh
     split at e
     ·rename_i hr
      cases e
      exact ⟨by omega,by omega,hr⟩
     ·cases e
   ·split at e
    ·rename_i hr
     cases e
     exact ⟨a.1,a.2,hr⟩
    ·cases e
theorem ptComma_ok {l:List UInt8} {a b:Nat} {d:RD} (e:ptComma l a=.ok (d,b)):a+2≤b∧b≤l.length∧rdOk d:=by
 unfold ptComma at e
 split at e
 ·cases e
 ·rename_i c t hdr
  have hl:=congrArg List.length hdr
  simp at hl
  split at e
  ·split at e
   ·cases e
   ·rename_i hd
    have:=ptDay_some hd
    cases e
    exact ⟨by omega,by omega,this.2.2⟩
  ·cases e
theorem ptComma_err {l:List UInt8} {a x:Nat} (ha:a≤l.length) (e:ptComma l a=.error x):x≤l.length:=by
 unfold ptComma at e
 split at e
 ·cases e;exact ha
 ·rename_i c t hdr
  have hl:=congrArg List.length hdr
  simp at hl
  split at e
  ·split at e
   ·cases e;omega
   ·cases e
  ·cases e;exact ha
theorem ptDays_err {l:List UInt8} {a x:Nat} {std dst:List UInt8} {so dof:Int} (ha:a≤l.length) (e:ptDays l a std so dst dof=.error x):x≤l.length:=by
 unfold ptDays at e
 split at e
 ·rename_i h1
  cases e
  exact ptComma_err ha h1
 ·rename_i h1
  have b1:=ptComma_ok h1
  split at e
  ·rename_i h2
   cases e
   exact ptComma_err b1.2.1 h2
  ·rename_i h2
   have b2:=ptComma_ok h2
   split at e
   ·cases e
   ·cases e;exact b2.2.1
theorem ptDays_ok {l:List UInt8} {a:Nat} {std dst:List UInt8} {so dof:Int} {r:PR} (e:ptDays l a std so dst dof=.ok r):offOk dof∧∃ st en,r=(std,so,true,dst,dof,st,en)∧rdOk st∧rdOk en:=by
 unfold ptDays at e
 split at e
 ·cases e
 ·rename_i h1
  have b1:=ptComma_ok h1
  split at e
  ·cases e
  ·rename_i h2
   have b2:=ptComma_ok h2
   split at e
   ·rename_i hc
    cases e
    exact ⟨hc.2,_,_,rfl,b1.2.2,b2.2.2⟩
   ·cases e
theorem ptParse_err {l:List UInt8} {x:Nat} (e:ptParse l=.error x):x≤l.length:=by
 unfold ptParse at e
 split at e
 ·cases e;omega
 ·rename_i std n h1
  have a1:=tnParse_some h1
  split at e
  ·cases e;exact a1.2.1
  ·rename_i v m h2
   have a2:=parse_prefix h2
   simp at a2
   split at e
   ·split at e
    ·cases e
    ·split at e
     ·cases e;omega
     ·rename_i dst n2 h3
      have a3:=tnParse_some h3
      simp at a3
      split at e
      ·exact ptDays_err (by omega) e
      ·rename_i v2 m2 h4
       have a4:=parse_prefix h4
       simp at a4
       split at e
       ·exact ptDays_err (by omega) e
       ·cases e;omega
   ·cases e;exact a1.2.1
theorem ptParse_ok {l:List UInt8} {r:PR} (e:ptParse l=.ok r):prOk r:=by
 unfold ptParse at e
 split at e
 ·cases e
 ·rename_i std n h1
  have a1:=tnParse_some h1
  split at e
  ·cases e
  ·rename_i v m h2
   split at e
   ·rename_i hv
    have hv':offOk (-v):=by unfold offOk at hv ⊢;omega
    split at e
    ·cases e
     exact ⟨a1.1,hv',rfl,rfl,rfl,rfl⟩
    ·split at e
     ·cases e
     ·rename_i dst n2 h3
      have a3:=tnParse_some h3
      split at e
      ·obtain ⟨ho,st,en,rfl,hs,hn⟩:=ptDays_ok e
       exact ⟨a1.1,hv',a3.1,ho,hs,hn⟩
      ·split at e
       ·obtain ⟨ho,st,en,rfl,hs,hn⟩:=ptDays_ok e
        exact ⟨a1.1,hv',a3.1,ho,hs,hn⟩
       ·cases e
   ·cases e
def vday (d:RD):Value:=.agg #[.int .i64 d.1,.int .i64 d.2.1,.int .i64 d.2.2.1,.int .i64 d.2.2.2.1,.int .i64 d.2.2.2.2.1,.int .i64 d.2.2.2.2.2]
def vrule (std:ByteArray) (so:Int) (hd:Bool) (dst:ByteArray) (dof:Int) (st en:RD):Value :=
 .agg #[.string std,.int .i64 so,.bool hd,.string dst,.int .i64 dof,.int .i64 st.1,.int .i64 st.2.1,.int .i64 st.2.2.1,.int .i64 st.2.2.2.1,.int .i64 st.2.2.2.2.1,.int .i64 st.2.2.2.2.2,.int .i64 en.1,.int .i64 en.2.1,.int .i64 en.2.2.1,.int .i64 en.2.2.2.1,.int .i64 en.2.2.2.2.1,.int .i64 en.2.2.2.2.2]
def crule (std:ByteArray) (so:Int) (hd:Bool) (dst:ByteArray) (dof:Int) (st en:RD):Array Value :=
 #[.string std,.int .i64 so,.bool hd,.string dst,.int .i64 dof,.int .i64 st.1,.int .i64 st.2.1,.int .i64 st.2.2.1,.int .i64 st.2.2.2.1,.int .i64 st.2.2.2.2.1,.int .i64 st.2.2.2.2.2,.int .i64 en.1,.int .i64 en.2.1,.int .i64 en.2.2.1,.int .i64 en.2.2.2.1,.int .i64 en.2.2.2.2.1,.int .i64 en.2.2.2.2.2]
theorem vrule_c (std:ByteArray) (so:Int) (hd:Bool) (dst:ByteArray) (dof:Int) (st en:RD):vrule std so hd dst dof st en=.agg (crule std so hd dst dof st en):=rfl
theorem gr_rule (std:ByteArray) (so:Int) (hd:Bool) (dst:ByteArray) (dof:Int) (st en:RD):Gr Tryz.prog 83 17 (crule std so hd dst dof st en) :=
 ⟨by rw [show (crule std so hd dst dof st en).size=17 from rfl];kernel_rfl,rfl,by simp [crule,Value.oneCell']⟩
def ptRes (r:Except Nat PR):Value :=
 match r with
 | .error a=>.tuple #[vrule ⟨#[]⟩ 0 false ⟨#[]⟩ 0 rd0 rd0,.int .i64 14,.int .i64 a]
 | .ok r=>.tuple #[vrule (mkS r.1) r.2.1 r.2.2.1 (mkS r.2.2.2.1) r.2.2.2.2.1 r.2.2.2.2.2.1 r.2.2.2.2.2.2,.int .i64 0,.int .i64 0]
theorem prOk_len {r:PR} (h:prOk r):(mkS r.1).size≤255∧(mkS r.2.2.2.1).size≤255:=by
 obtain ⟨h1,h2,h3⟩:=h
 rw [size_mk,size_mk]
 refine ⟨(nameOk_iff.1 h1).2.1,?_⟩
 split at h3
 ·exact (nameOk_iff.1 h3.1).2.1
 ·rw [h3.1];simp
def lateD (d:RD):Bool:=decide (d.2.2.2.2.2<0∨86400<d.2.2.2.2.2)
namespace r10_
end r10_
theorem ylen_leap (y:Int):ylen y=365+(if leap y=true then 1 else 0):=by unfold ylen;split <;> rfl
theorem month_start (y:Int) (k:Nat):days y ((k:Int)+1) 1=ystart y+cum y k:=by
 unfold days yday
 rw [show ((k:Int)+1 - 1).toNat=k by omega]
 omega
theorem start_step (y:Int) (k:Nat):ystart (y+1)+cum (y+1) k - (ystart y+cum y k)=365∨ystart (y+1)+cum (y+1) k - (ystart y+cum y k)=366:=by
 have h1:=ystart_succ y
 have h2:=ylen_leap y
 have h3:=cum_leap y k
 have h4:=cum_leap (y+1) k
 rw [h1,h2,h3,h4]
 by_cases hk:2≤k <;> cases leap y <;> cases leap (y+1) <;> simp [hk] <;> omega
theorem rdm_step (y M wk wd:Int) (hM:1≤M) (hM2:M≤12) (h0:0≤wd) (h1:wd≤6) (h2:1≤wk) (h3:wk≤5):rdm (y+1) M wk wd - rdm y M wk wd=364∨rdm (y+1) M wk wd - rdm y M wk wd=371:=by
 obtain ⟨k,rfl⟩:∃ k:Nat,M=(k:Int)+1:=⟨(M - 1).toNat,by omega⟩
 have s1:=start_step y k
 have s2:=start_step y (k+1)
 have m1:=month_start y k
 have m2:=month_start (y+1) k
 have c1:cum y (k+1)=cum y k+mdays y ((k:Int)+1):=rfl
 have c2:cum (y+1) (k+1)=cum (y+1) k+mdays (y+1) ((k:Int)+1):=rfl
 have l1:=mdays_bd y ((k:Int)+1)
 have l2:=mdays_bd (y+1) ((k:Int)+1)
 rw [c1,c2] at s2
 replace s2:(ystart (y+1)+cum (y+1) k)+mdays (y+1) ((k:Int)+1) - ((ystart y+cum y k)+mdays y ((k:Int)+1))=365∨(ystart (y+1)+cum (y+1) k)+mdays (y+1) ((k:Int)+1) - ((ystart y+cum y k)+mdays y ((k:Int)+1))=366:=by omega
 unfold rdm rfirst
 rw [m1,m2]
 generalize ystart y+cum y k=a at *
 generalize ystart (y+1)+cum (y+1) k=b at *
 generalize mdays y ((k:Int)+1)=la at *
 generalize mdays (y+1) ((k:Int)+1)=lb at *
 clear m1 m2 c1 c2
 by_cases h:wk≤4
 ·rw [if_pos h,if_pos h]
  omega
 ·rw [if_neg h,if_neg h]
  split <;> split <;> omega
theorem rdj_step (y D:Int):rdj (y+1) D - rdj y D=365∨rdj (y+1) D - rdj y D=366:=by
 have h1:=ystart_succ y
 have h2:=ylen_leap y
 unfold rdj
 rw [h1,h2]
 by_cases h:60≤D <;> cases leap y <;> cases leap (y+1) <;> simp [h] <;> omega
def rdD (d:RD) (y:Int):Int:=rday d.1 d.2.1 d.2.2.1 d.2.2.2.1 d.2.2.2.2.1 y
def chI (d:RD) (o:Int) (y:Int):Int:=rdD d y * 86400+d.2.2.2.2.2 - o
theorem rdD_step {d:RD} (h:rdOk d) (y:Int):364≤rdD d (y+1) - rdD d y∧rdD d (y+1) - rdD d y≤371:=by
 obtain ⟨K,D,M,Wk,Wd,T⟩:=d
 obtain ⟨_,_,hk⟩:=h
 unfold rdD rday
 simp only at hk ⊢
 rcases hk with ⟨rfl,_⟩ | ⟨rfl,_⟩ | ⟨rfl,_,h2,h3,h4,h5,h6,h7⟩
 ·have:=rdj_step y D
  simp only [show ¬ (1:Int)=2 by decide,if_false,if_true]
  omega
 ·have:=ystart_succ y
  have:=ylen_bd y
  simp only [if_true]
  omega
 ·have:=rdm_step y M Wk Wd h2 h3 h6 h7 h4 h5
  simp only [show ¬ (3:Int)=2 by decide,show ¬ (3:Int)=1 by decide,if_false]
  omega
theorem chI_step {d:RD} (h:rdOk d) (o y:Int):31449600≤chI d o (y+1) - chI d o y∧chI d o (y+1) - chI d o y≤32054400:=by
 have:=rdD_step h y
 unfold chI
 omega
theorem chI_add {d:RD} (h:rdOk d) (o y:Int) (k:Nat):31449600 * (k:Int)≤chI d o (y+k) - chI d o y∧chI d o (y+k) - chI d o y≤32054400 * (k:Int):=by
 induction k with
 | zero=>simp
 | succ k ih =>
   have:=chI_step h o (y+k)
   rw [show y+((k+1:Nat):Int)=y+k+1 by omega]
   omega
theorem chI_lt {d:RD} (h:rdOk d) (o:Int) {y z:Int} (hz:y<z):chI d o y<chI d o z:=by
 have:=chI_add h o y (z - y).toNat
 rw [show y+((z - y).toNat:Int)=z by omega] at this
 omega
theorem chI_le {d:RD} (h:rdOk d) (o:Int) {y z:Int}:chI d o y≤chI d o z ↔ y≤z:=by
 refine ⟨fun hh=>?_,fun hh=>?_⟩
 ·by_cases hc:y≤z
  ·exact hc
  ·have:=chI_lt h o (show z<y by omega);omega
 ·rcases Int.lt_or_eq_of_le hh with hl | rfl
  ·exact Int.le_of_lt (chI_lt h o hl)
  ·exact Int.le_refl _
theorem chI_ex {d:RD} (h:rdOk d) (o t:Int):∃ y,chI d o y≤t∧t<chI d o (y+1):=by
 -- a year far enough below
 have hlow:∃ y0,chI d o y0≤t:=by
  by_cases h0:chI d o 0≤t
  ·exact ⟨0,h0⟩
  ·have:=chI_add h o (-((chI d o 0 - t).toNat:Int)) (chI d o 0 - t).toNat
   rw [show -((chI d o 0 - t).toNat:Int)+((chI d o 0 - t).toNat:Int)=0 by omega] at this
   exact ⟨-((chI d o 0 - t).toNat:Int),by omega⟩
 obtain ⟨y0,h0⟩:=hlow
 have key:∀ (k:Nat) (y:Int),chI d o y≤t→t<chI d o y+31449600 * (k:Int)→∃ y,chI d o y≤t∧t<chI d o (y+1):=by
  intro k
  induction k with
  | zero=>intro y h1 h2;omega
  | succ k ih =>
    intro y h1 h2
    by_cases h3:t<chI d o (y+1)
    ·exact ⟨y,h1,h3⟩
    ·have:=chI_step h o y
     exact ih (y+1) (by omega) (by omega)
 exact key ((t - chI d o y0).toNat+1) y0 h0 (by omega)
theorem chI_uniq {d:RD} (h:rdOk d) (o:Int) {t y z:Int} (h1:chI d o y≤t) (h2:t<chI d o (y+1)) (h3:chI d o z≤t):z≤y:=by
 by_cases hc:z≤y
 ·exact hc
 ·have:=(chI_le h o).2 (show y+1≤z by omega);omega
def onS (st en:RD) (so dof t:Int):Prop:=∃ y,chI st so y≤t∧∀ z,chI en dof z≤t→chI en dof z≤chI st so y
theorem onS_iff {st en:RD} (hs:rdOk st) (he:rdOk en) {so dof t ya yb:Int} (a1:chI st so ya≤t) (a2:t<chI st so (ya+1)) (b1:chI en dof yb≤t) (b2:t<chI en dof (yb+1)) :
 onS st en so dof t ↔ chI en dof yb≤chI st so ya:=by
 refine ⟨fun ⟨y,h1,h2⟩=>?_,fun h=>⟨ya,a1,fun z hz=>?_⟩⟩
 ·have:=h2 yb b1
  have:=(chI_le hs so).2 (chI_uniq hs so a1 a2 h1)
  omega
 ·have:=(chI_le he dof).2 (chI_uniq he dof b1 b2 hz)
  omega
theorem cum_pos {y M:Int} (h0:1≤M) (h1:M≤12):ystart y≤days y M 1∧days y M 1+mdays y M≤ystart (y+1):=by
 have e:days y M 1=ystart y+cum y (M - 1).toNat:=by unfold days yday;omega
 have h2:=cum_bd y (M - 1).toNat
 have h3:cum y ((M - 1).toNat+1)=cum y (M - 1).toNat+mdays y M:=by
  show cum y (M - 1).toNat+mdays y (((M - 1).toNat:Int)+1)=_
  rw [show ((M - 1).toNat:Int)+1=M by omega]
 have h4:=cum_mono y (show (M - 1).toNat+1≤12 by omega)
 rw [cum12] at h4
 have:=ystart_succ y
 omega
theorem rdD_bd {d:RD} (h:rdOk d) (y:Int):ystart y≤rdD d y∧rdD d y≤ystart (y+1):=by
 obtain ⟨K,D,M,Wk,Wd,T⟩:=d
 obtain ⟨_,_,hk⟩:=h
 have hs:=ystart_succ y
 have hl:=ylen_leap y
 unfold rdD rday
 simp only at hk ⊢
 rcases hk with ⟨rfl,h1,h2,_⟩ | ⟨rfl,h1,h2,_⟩ | ⟨rfl,_,h2,h3,h4,h5,h6,h7⟩
 ·simp only [show ¬ (1:Int)=2 by decide,if_false,if_true]
  unfold rdj
  cases hy:leap y
  ·rw [hy] at hl
   simp at hl ⊢
   omega
  ·rw [hy] at hl
   simp at hl ⊢
   split <;> omega
 ·simp only [if_true]
  cases hy:leap y
  ·rw [hy] at hl;simp at hl;omega
  ·rw [hy] at hl;simp at hl;omega
 ·simp only [show ¬ (3:Int)=2 by decide,show ¬ (3:Int)=1 by decide,if_false]
  have:=rdm_bd y M Wk Wd h6 h7 h4 h5
  have:=cum_pos (y:=y) h2 h3
  omega
theorem chI_bd {d:RD} (h:rdOk d) {o:Int} (ho:-89999≤o∧o≤89999) (y:Int):ystart y * 86400 - 694798≤chI d o y∧chI d o y≤ystart (y+1) * 86400+694798:=by
 have h1:=rdD_bd h y
 have h2:=h.1
 have h3:=h.2.1
 unfold chI
 omega
theorem ystart_gap {a b:Int} (h:a<b):ystart a+365≤ystart b:=by
 have:=ystart_succ a
 have:=ylen_bd a
 have:=ystart_mono (show a+1≤b by omega)
 omega
theorem chI_win {d:RD} (h:rdOk d) {o t Y y:Int} (ho:-89999≤o∧o≤89999) (t0:ystart Y * 86400≤t) (t1:t<ystart (Y+1) * 86400) (h1:chI d o y≤t) (h2:t<chI d o (y+1)):Y - 2≤y∧y≤Y+1:=by
 have b1:=chI_bd h ho y
 have b2:=chI_bd h ho (y+1)
 constructor
 ·by_cases hc:Y - 2≤y
  ·exact hc
  ·have:=ystart_gap (show y+1+1<Y by omega)
   omega
 ·by_cases hc:y≤Y+1
  ·exact hc
  ·have:=ystart_gap (show Y+1<y by omega)
   omega
def ruleS (hd:Bool) (st en:RD) (so dof t:Int):Prop:=hd=true∧onS st en so dof t
theorem ruleS_no {st en:RD} {so dof t:Int}:¬ ruleS false st en so dof t:=fun h=>by cases h.1
end Go.Proofs.YtpapfpcehlhgeaaGreatDoor
