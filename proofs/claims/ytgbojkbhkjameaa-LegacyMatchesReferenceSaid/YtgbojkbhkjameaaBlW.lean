/-
  DATA BLOCKS IN MEMORY (layer 19): the seven slices of a block and what they read as. No program.
-/
import Derived.Test.YtgbojkbhkjameaaBlM
import Derived.Test.YtgbojkbhkjameaaOwk
namespace Go.Proofs.Ytgbojkbhkjameaa
open Go.RowKit
set_option linter.unusedVariables false
set_option maxRecDepth 100000
/-- a slice: its address, length and capacity. -/
structure Sl where
  A : Option Addr
  n : Nat
  c : Nat
/-- the seven slices of a block. -/
structure BkS where
  ti : Sl
  ix : Sl
  ty : Sl
  ch : Sl
  lp : Sl
  sd : Sl
  ut : Sl
/-- a block as a value; its cells. -/
@[reducible] def bkL (S : BkS) : List Value := [.slice S.ti.A S.ti.n S.ti.c, .slice S.ix.A S.ix.n S.ix.c, .slice S.ty.A S.ty.n S.ty.c, .slice S.ch.A S.ch.n S.ch.c, .slice S.lp.A S.lp.n S.lp.c, .slice S.sd.A S.sd.n S.sd.c, .slice S.ut.A S.ut.n S.ut.c]
@[reducible] def bkV (S : BkS) : Value := .agg #[.slice S.ti.A S.ti.n S.ti.c, .slice S.ix.A S.ix.n S.ix.c, .slice S.ty.A S.ty.n S.ty.c, .slice S.ch.A S.ch.n S.ch.c, .slice S.lp.A S.lp.n S.lp.c, .slice S.sd.A S.sd.n S.sd.c, .slice S.ut.A S.ut.n S.ut.c]
/-- what a slice is, whatever it holds. -/
def Sl.ok (s : Sl) : Prop := (s.A = none → s.n = 0 ∧ s.c = 0) ∧ s.n ≤ s.c ∧ s.c ≤ 9223372036854775807
/-- a block that can be read. -/
structure IsBk (w : World) (S : BkS) (b : Bk) : Prop where
  oti : S.ti.ok
  oix : S.ix.ok
  oty : S.ty.ok
  och : S.ch.ok
  olp : S.lp.ok
  osd : S.sd.ok
  out_ : S.ut.ok
  ti : Rd w S.ti.A S.ti.n (b.ti.map (Value.int .i64))
  ix : Rd w S.ix.A S.ix.n (b.ix.map (Value.int .u8))
  ty : Rk 3 w S.ty.A S.ty.n (tcs b.ty)
  ch : Rd w S.ch.A S.ch.n (b.ch.map (Value.int .u8))
  lp : Rk 2 w S.lp.A S.lp.n (lcs b.lp)
  sd : Rd w S.sd.A S.sd.n (bls b.sd)
  ut : Rd w S.ut.A S.ut.n (bls b.ut)
  ok : b.ok
section
variable {w w' : World} {S : BkS} {b : Bk}
theorem IsBk.below (h : IsBk w S b) (hb : Below w.heap.size w w') : IsBk w' S b :=
  ⟨h.oti, h.oix, h.oty, h.och, h.olp, h.osd, h.out_, h.ti.below hb, h.ix.below hb, h.ty.below hb, h.ch.below hb, h.lp.below hb, h.sd.below hb, h.ut.below hb, h.ok⟩
theorem IsBk.alloc (h : IsBk w S b) (o : Obj) : IsBk (w.alloc o) S b := h.below (bl_new w o)
theorem IsBk.drew (h : IsBk w S b) : IsBk w.drew S b := h.below (bl_drew (bl_refl w))
theorem IsBk.lens (h : IsBk w S b) : b.ti.length = S.ti.n ∧ b.ix.length = S.ix.n ∧ b.ty.length = S.ty.n ∧ b.ch.length = S.ch.n ∧ b.lp.length = S.lp.n ∧ b.sd.length = S.sd.n ∧ b.ut.length = S.ut.n := by
  refine ⟨?_, ?_, ?_, ?_, ?_, ?_, ?_⟩
  · have := h.ti.len; simpa using this
  · have := h.ix.len; simpa using this
  · have := h.ty.len; rw [tcs_len] at this; omega
  · have := h.ch.len; simpa using this
  · have := h.lp.len; rw [lcs_len] at this; omega
  · have := h.sd.len; simpa using this
  · have := h.ut.len; simpa using this
end
/-- the empty block. -/
def BkS.zero : BkS := ⟨⟨none, 0, 0⟩, ⟨none, 0, 0⟩, ⟨none, 0, 0⟩, ⟨none, 0, 0⟩, ⟨none, 0, 0⟩, ⟨none, 0, 0⟩, ⟨none, 0, 0⟩⟩
theorem isBk_zero (w : World) : IsBk w BkS.zero Bk.zero := by
  have o : Sl.ok ⟨none, 0, 0⟩ := ⟨fun _ => ⟨rfl, rfl⟩, Nat.le_refl _, by decide⟩
  exact ⟨o, o, o, o, o, o, o, Rd.none_ w, Rd.none_ w, Rk.none_ 3 w, Rd.none_ w, Rk.none_ 2 w, Rd.none_ w, Rd.none_ w, Bk.zero_ok⟩
theorem rd_none (w : World) : Rd w none 0 [] := Rd.none_ w
end Go.Proofs.Ytgbojkbhkjameaa
