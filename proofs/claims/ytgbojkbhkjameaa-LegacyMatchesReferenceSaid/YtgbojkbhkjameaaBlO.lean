/-
  DATA BLOCKS OF THE CALL'S OWN (layer 19): the seven slices of a block, each a row of the call's own.
-/
import Derived.Test.YtgbojkbhkjameaaBlW
import Derived.Test.YtgbojkbhkjameaaRow4
import Derived.Test.YtgbojkbhkjameaaRows
namespace Go.Proofs.Ytgbojkbhkjameaa
open Go.ChangeShapes Go.WideShapes Go.ChangeAt Go.RowKit
set_option linter.unusedVariables false
theorem ow_slok {w : World} {B n c : Nat} {e : TypeId} {A : Option Addr} {l : List Value} (h : Ow w B e A n c l) : (Sl.mk A n c).ok := ⟨h.nilcap, h.cap, by have := h.capMax; simpa [maxLen] using this⟩
theorem ok_slok {w : World} {s B n c : Nat} {e : TypeId} {A : Option Addr} {l : List Value} (h : Ok s w B e A n c l) : (Sl.mk A n c).ok := ⟨h.nilcap, h.cap, by have := h.capMax; simpa [maxLen] using this⟩
@[reducible] def blA (S : BkS) : Array Value := #[.slice S.ti.A S.ti.n S.ti.c, .slice S.ix.A S.ix.n S.ix.c, .slice S.ty.A S.ty.n S.ty.c, .slice S.ch.A S.ch.n S.ch.c, .slice S.lp.A S.lp.n S.lp.c, .slice S.sd.A S.sd.n S.sd.c, .slice S.ut.A S.ut.n S.ut.c]
theorem gr_blk (S : BkS) : Gr Try.prog 28 7 (blA S) := ⟨by rw [show (blA S).size = 7 from rfl]; kernel_rfl, rfl, by simp [blA, Value.oneCell']⟩
structure OwBk (w : World) (B : Nat) (S : BkS) (b : Bk) : Prop where
  ti : Ow w B 2 S.ti.A S.ti.n S.ti.c (b.ti.map (Value.int .i64))
  ix : Ow w B 5 S.ix.A S.ix.n S.ix.c (b.ix.map (Value.int .u8))
  ty : Ok 3 w B 38 S.ty.A S.ty.n S.ty.c (tcs b.ty)
  ch : Ow w B 5 S.ch.A S.ch.n S.ch.c (b.ch.map (Value.int .u8))
  lp : Ok 2 w B 42 S.lp.A S.lp.n S.lp.c (lcs b.lp)
  sd : Ow w B 4 S.sd.A S.sd.n S.sd.c (bls b.sd)
  ut : Ow w B 4 S.ut.A S.ut.n S.ut.c (bls b.ut)
  ok : b.ok
section
variable {w w' : World} {B : Nat} {S : BkS} {b : Bk}
theorem OwBk.is (h : OwBk w B S b) : IsBk w S b :=
  ⟨ow_slok h.ti, ow_slok h.ix, ok_slok h.ty, ow_slok h.ch, ok_slok h.lp, ow_slok h.sd, ow_slok h.ut, h.ti.rd, h.ix.rd, h.ty.rd, h.ch.rd, h.lp.rd, h.sd.rd, h.ut.rd, h.ok⟩
theorem OwBk.below (h : OwBk w B S b) (hb : Below w.heap.size w w') : OwBk w' B S b :=
  ⟨h.ti.below hb, h.ix.below hb, h.ty.below hb, h.ch.below hb, h.lp.below hb, h.sd.below hb, h.ut.below hb, h.ok⟩
theorem OwBk.mono (h : OwBk w B S b) {B' : Nat} (hb : B' ≤ B) : OwBk w B' S b :=
  ⟨h.ti.mono hb, h.ix.mono hb, h.ty.mono hb, h.ch.mono hb, h.lp.mono hb, h.sd.mono hb, h.ut.mono hb, h.ok⟩
theorem OwBk.setLow (h : OwBk w B S b) {g : Nat} (o : Nat) (hg : g < B) (u : Value) : OwBk (w.setCell ⟨g, o, none⟩ u) B S b :=
  ⟨h.ti.setLow o hg u, h.ix.setLow o hg u, h.ty.setLow o hg u, h.ch.setLow o hg u, h.lp.setLow o hg u, h.sd.setLow o hg u, h.ut.setLow o hg u, h.ok⟩
theorem OwBk.drew (h : OwBk w B S b) : OwBk w.drew B S b :=
  ⟨h.ti.drew, h.ix.drew, h.ty.drew, h.ch.drew, h.lp.drew, h.sd.drew, h.ut.drew, h.ok⟩
end
end Go.Proofs.Ytgbojkbhkjameaa
