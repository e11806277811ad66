/-
  THE TABLE OF POWERS OF TEN THAT strconv READS, AS THE WALKS WANT IT; strconv.Itoa AT 0 .. 167. No conditions beyond the bounds.
-/
import Derived.Test.YtjeclakdgmjbjaaGreatDoorHf
import Derived.Test.YtjeclakdgmjbjaaGreatDoorIto
import Derived.Lib.LaidTab
import Derived.Lib.AppendIntMem
import Derived.MakeChecks
import Derived.LaidHandle
import Derived.Stop.LaidErr
namespace Go.Proofs.YtjeclakdgmjbjaaGreatDoor
open Go.ChangeShapes Go.WideShapes Go.ChangeAt Go.RowKit
set_option linter.unusedVariables false
def Tp (w : World) : Prop := Lib.TabIs Tryz.prog w "internal/strconv.uint64pow10" .u64 Lib.pow10Tab
theorem Tp.below {w w' : World} (h : Tp w) (hb : Below w.heap.size w w') : Tp w' := Lib.tabBelow_of_tabIs h w' hb
theorem tp_of {W : World} (h : laidMetH Tryz.prog [("math/bits.deBruijn32tab", Rows.laid_math_bits_deBruijn32tab), ("math/bits.deBruijn64tab", Rows.laid_math_bits_deBruijn64tab), ("internal/strconv.uint64pow10", Rows.laid_internal_strconv_uint64pow10)] W) : Tp W := by
  rw [MakeChecks.laidMetH_plain _ _ _ (by kernel_rfl)] at h
  have hg : Tryz.prog.globalNamed "internal/strconv.uint64pow10" = some 0 := by kernel_rfl
  exact Lib.tabIs_of_head (k := .u64) (zs := Lib.pow10Tab) hg (by kernel_rfl) Tryz.underlying136 Tryz.underlying121 (by kernel_rfl) (by kernel_rfl) h.tail.tail
theorem bl_grow (w : World) (k : Nat) (os : Array Obj) : Below w.heap.size w (Sort.grow (w.drewN k) os) := by
  refine ⟨rfl, rfl, rfl, ?_, ?_⟩
  · show w.heap.size ≤ (w.heap ++ os).size
    rw [Array.size_append]
    omega
  · intro b hb
    show (w.heap ++ os)[b]? = w.heap[b]?
    exact Array.getElem?_append_left hb
theorem itoa_hh : ∀ n : Fin 168, Lib.itoa (n.val : Int) = hh (n.val : Int) := by
  intro ⟨n, hn⟩
  have e : Lib.itoa (n : Int) = Lib.decDigits n := by unfold Lib.itoa; rw [if_neg (by omega)]; rfl
  show Lib.itoa (n : Int) = hh (n : Int)
  rw [e]
  by_cases h10 : n < 10
  · rw [Lib.decDigits, dif_pos h10]
    unfold hh dg
    rw [if_neg (by omega), if_neg (by omega)]
    show [UInt8.ofNat (48 + n)] = [UInt8.ofNat (48 + (n : Int) % 10).toNat]
    rw [show (48 + (n : Int) % 10).toNat = 48 + n by omega]
  by_cases h100 : n < 100
  · rw [Lib.decDigits, dif_neg h10, Lib.decDigits, dif_pos (by omega)]
    unfold hh dg
    rw [if_neg (by omega), if_pos (by omega)]
    show [UInt8.ofNat (48 + n / 10), UInt8.ofNat (48 + n % 10)] = [UInt8.ofNat (48 + (n : Int) / 10 % 10).toNat, UInt8.ofNat (48 + (n : Int) % 10).toNat]
    rw [show (48 + (n : Int) % 10).toNat = 48 + n % 10 by omega, show (48 + (n : Int) / 10 % 10).toNat = 48 + n / 10 by omega]
  · rw [Lib.decDigits, dif_neg h10, Lib.decDigits, dif_neg (by omega), Lib.decDigits, dif_pos (by omega)]
    unfold hh dg
    rw [if_pos (by omega), if_pos (by omega)]
    show [UInt8.ofNat (48 + n / 10 / 10), UInt8.ofNat (48 + n / 10 % 10), UInt8.ofNat (48 + n % 10)] = [49, UInt8.ofNat (48 + (n : Int) / 10 % 10).toNat, UInt8.ofNat (48 + (n : Int) % 10).toNat]
    rw [show (48 + (n : Int) % 10).toNat = 48 + n % 10 by omega, show (48 + (n : Int) / 10 % 10).toNat = 48 + n / 10 % 10 by omega, show n / 10 / 10 = 1 by omega]
    rfl
theorem Itoa_ (n : Int) (w : World) (hT : Tp w) (h0 : 0 ≤ n) (h1 : n ≤ 167) : Calls Tryz.prog 67 #[.int .i64 n] w fun e w' => e = .returned (.string (mkS (hh n))) ∧ Below w.heap.size w w' := by
  refine (Any.strconv_Itoa Tryz.laysItoa n (by omega) (by omega) w hT).mono ?_
  rintro e w' ⟨rfl, k, os, rfl⟩
  have e := itoa_hh ⟨n.toNat, by omega⟩
  rw [show ((n.toNat : Nat) : Int) = n by omega] at e
  rw [e]
  exact ⟨rfl, bl_grow _ _ _⟩
end Go.Proofs.YtjeclakdgmjbjaaGreatDoor
