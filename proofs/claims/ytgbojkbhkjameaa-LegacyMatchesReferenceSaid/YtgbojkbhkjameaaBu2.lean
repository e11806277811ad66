/-
  MORE WORDS ON 'But': slices and blocks of the call's own that lie above the block. No program.
-/
import Derived.Test.YtgbojkbhkjameaaBlO
import Derived.Test.YtgbojkbhkjameaaBut
import Derived.Test.YtgbojkbhkjameaaRow4
namespace Go.Proofs.Ytgbojkbhkjameaa
open Go.ChangeShapes Go.WideShapes Go.ChangeAt Go.RowKit
set_option linter.unusedVariables false
section
variable {g : Nat} {w w' : World} {b : Nat} {e : TypeId} {A : Option Addr} {n c s : Nat} {xs : List Value}
theorem But.drew (h : But g w w') : But g w w'.drew := h.next (bl_drew (bl_refl w'))
theorem ow_but (h : Ow w b e A n c xs) (hg : g < b) (k : But g w w') : Ow w' b e A n c xs := by
  refine ⟨Nat.le_trans h.1 k.size, h.2.1, ?_⟩
  rcases h.2.2 with h' | ⟨g0, cap, cur, e1, e2, e3, e4⟩
  · exact .inl h'
  · refine .inr ⟨g0, cap, cur, e1, e2, ?_, e4⟩
    have hg0 : g0 < w.heap.size := (h.2.lt g0 (by rw [e1]; rfl)).2
    exact (k.block g0 hg0 (by omega)).trans e3
theorem ok_but (h : Ok s w b e A n c xs) (hg : g < b) (k : But g w w') : Ok s w' b e A n c xs := by
  refine ⟨Nat.le_trans h.1 k.size, h.2.1, ?_⟩
  rcases h.2.2 with h' | ⟨g0, cap, cur, e1, e2, e3, e4⟩
  · exact .inl h'
  · refine .inr ⟨g0, cap, cur, e1, e2, ?_, e4⟩
    have hg0 : g0 < w.heap.size := (h.2.lt g0 (by rw [e1]; rfl)).2
    exact (k.block g0 hg0 (by omega)).trans e3
theorem OwBk.but {S : BkS} {bk : Bk} (h : OwBk w b S bk) (hg : g < b) (k : But g w w') : OwBk w' b S bk :=
  ⟨ow_but h.ti hg k, ow_but h.ix hg k, ok_but h.ty hg k, ow_but h.ch hg k, ok_but h.lp hg k, ow_but h.sd hg k, ow_but h.ut hg k, h.ok⟩
theorem ro_but {g' : Nat} {vs : Array Value} {T : TypeId} (h : Ro w g' vs T) (k : But g w w') (hn : g' ≠ g) : Ro w' g' vs T := (k.block g' h.lt hn).trans h
theorem rd_but {gr n : Nat} {xs : List Value} (h : Rd w (some ⟨gr, 0, none⟩) n xs) (k : But g w w') (hn : gr ≠ g) : Rd w' (some ⟨gr, 0, none⟩) n xs :=
  ⟨h.1, fun hp => by
    obtain ⟨ad, e, hc⟩ := h.2 hp
    cases e
    refine ⟨_, rfl, fun i v hi => ?_⟩
    have h1 := hc i v hi
    rw [addr_flat, Nat.zero_add] at h1 ⊢
    rw [← h1]
    exact World.cell?_of_block (w := w) (a := ⟨gr, i, none⟩) (k.block gr (cell_lt h1) hn)⟩
end
end Go.Proofs.Ytgbojkbhkjameaa
