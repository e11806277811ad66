/-
  Texts of mine in one file: Rng. Their conditions stand in the theorems.
-/
import Derived.Test.YtbehflfpdkedgaaGreatDoorQ05
import Derived.WalkKit
namespace Go.Proofs.YtbehflfpdkedgaaGreatDoor
set_option linter.unusedVariables false
set_option linter.unusedSimpArgs false
set_option maxRecDepth 100000
set_option maxHeartbeats 16000000
open Go.ChangeShapes Go.WideShapes Go.ChangeAt Go.RowKit
def rn (s : ByteArray) (k : Nat) : Int := (Utf8.decode s k).1
def rw_ (s : ByteArray) (k : Nat) : Nat := (Utf8.decode s k).2
theorem rn_low {s : ByteArray} {k : Nat} (h : k < s.size) (hl : (s[k].toNat : Int) < 128) : rn s k = s[k].toNat ∧ rw_ s k = 1 := by
 unfold rn rw_
 rw [decode_ascii s k h (by omega)]
 exact ⟨rfl, rfl⟩
theorem rn_high {s : ByteArray} {k : Nat} (h : k < s.size) (hl : 128 ≤ (s[k].toNat : Int)) : 128 ≤ rn s k ∧ 1 ≤ rw_ s k := by
 have := decode_high s k h (by omega)
 unfold rn rw_
 exact ⟨by have := this.1; omega, this.2⟩
theorem next_in {P : Program} (w : World) (s : ByteArray) (k : Nat) (ty : TypeId) (h : k < s.size) :
 (Instr.next (.pointer (some ⟨w.heap.size, 0, none⟩)) true ty).run P (w.iter s k) = .ok (.tuple #[.bool true, .int .i64 k, .int .i32 (rn s k)]) (w.iter s (k + rw_ s k)) := run_next_any w s k ty h
theorem iter_below (w : World) (s : ByteArray) (k : Nat) : Below w.heap.size w (w.iter s k) := bl_new w _
theorem rn_test {f : Int → Bool} (hf : ∀ x, 128 ≤ x → f x = false) {s : ByteArray} {k : Nat} (h : k < s.size) : f (rn s k) = f (s[k].toNat : Int) ∧ (f (s[k].toNat : Int) = true → rw_ s k = 1) := by
 by_cases hl : (s[k].toNat : Int) < 128
 ·obtain ⟨h1, h2⟩ := rn_low h hl
  exact ⟨by rw [h1], fun _ => h2⟩
 ·obtain ⟨h1, _⟩ := rn_high h (by omega)
  exact ⟨by rw [hf _ h1, hf _ (by omega)], fun h3 => by rw [hf _ (by omega)] at h3; cases h3⟩
theorem pre_facts (p : UInt8 → Bool) (s : ByteArray) : ∃ n, ((byt s).takeWhile p).length = n ∧ n ≤ s.size ∧ (∀ k (h : k < s.size), k < n → p s[k] = true) ∧ (∀ h : n < s.size, p s[n] = false) := by
 have hle := tw_le p (byt s)
 rw [len_byt] at hle
 refine ⟨_, rfl, hle, fun k h hk => ?_, fun h => ?_⟩
 ·rw [← get_byt s k h]
  exact tw_lt hk _
 ·rw [← get_byt s _ h]
  exact tw_at (by rw [len_byt]; exact h)
end Go.Proofs.YtbehflfpdkedgaaGreatDoor
