/-
  WORDS FOR THE LAWS OF LAYER 19. No program.
-/
import Derived.Test.YtbajdlgcajeldaaGreatDoorBlD
namespace Go.Proofs.YtbajdlgcajeldaaGreatDoor
open Go.RowKit
set_option linter.unusedVariables false
theorem c32_ {t : Int} (h : (Lit.int .u32 t).wf = true) : C32 t := by simp [Lit.wf, IntKind.min, IntKind.max, IntKind.signed, IntKind.bits] at h; unfold C32; omega
theorem encB_bytes (k : Nat) {b : Bk} (hb : b.ok) : Bytes (encB k b) :=
  (eT_bytes k b.ti).app (hb.ix.app ((eTT_bytes hb.ty).app (hb.ch.app ((eLP_bytes k b.lp).app ((bytes_of_mem fun x hx => by have := eI_bd b.sd x hx; omega).app (bytes_of_mem fun x hx => by have := eI_bd b.ut x hx; omega))))))
theorem bytes_set {l : List Int} (h : Bytes l) (j : Nat) {v : Int} (h0 : 0 ≤ v) (h1 : v < 256) : Bytes (l.set j v) := bytes_of_mem fun x hx => by
  rcases List.mem_or_eq_of_mem_set hx with hx | rfl
  · exact h.mem x hx
  · exact ⟨h0, h1⟩
theorem u8w (x : Int) : 0 ≤ IntKind.u8.wrap x ∧ IntKind.u8.wrap x < 256 := by
  have : IntKind.u8.wrap x = x % 256 := by simp [IntKind.wrap, IntKind.bits, IntKind.signed]
  omega
/-- a store of a byte into whatever block: a slice of bytes of the call's own stays one. -/
theorem ow_poke {w : World} {b : Nat} {e : TypeId} {A : Option Addr} {n c : Nat} {l : List Int} (h : Ow w b e A n c (l.map (Value.int .u8))) (hl : Bytes l) (g j : Nat) {v : Int} (h0 : 0 ≤ v) (h1 : v < 256) :
    ∃ l', Bytes l' ∧ Ow (w.setCell ⟨g, j, none⟩ (.int .u8 v)) b e A n c (l'.map (Value.int .u8)) := by
  by_cases hg : some g = (Value.slice A n c).ownBlock
  · rcases h.2.2 with ⟨h0', _⟩ | ⟨g', cap, cur, e1, _⟩
    · injection h0' with h0'
      subst h0'
      cases hg
    · injection e1 with e1
      subst e1
      have hgg : g = g' := by injection hg
      subst hgg
      exact ⟨l.set j v, bytes_set hl j h0 h1, by rw [List.map_set]; exact h.set j _⟩
  · exact ⟨l, hl, ow_setNe h hg j _⟩
theorem zero_fit (k : Nat) : Bk.zero.fit k := ⟨rfl, rfl, rfl⟩
/-- what Decode gives can be encoded. -/
theorem decB_good {k : Nat} (hk : k = 4 ∨ k = 8) (a b c d x y : Nat) {l : List Int} (hl : Bytes l) (p : Nat) (at_ : Int) : (decB k a b c d x y l p at_).1.fit k ∧ (decB k a b c d x y l p at_).1.le l.length := by
  have hz : Bk.zero.le l.length := by unfold Bk.le Bk.zero; simp
  unfold decB
  split
  · exact ⟨zero_fit k, hz⟩
  · rename_i hlt
    split
    · refine ⟨(decBk_ok hk a b c d x y hl p (by omega)).2, ?_⟩
      obtain ⟨l1, l2, l3, l4, l5, l6, l7⟩ := decBk_len k a b c d x y l p (by omega)
      unfold Bk.le
      dsimp only
      unfold tot at hlt
      rcases hk with rfl | rfl <;> omega
    · exact ⟨zero_fit k, hz⟩
end Go.Proofs.YtbajdlgcajeldaaGreatDoor
