/-
  CONTRACTS OF zoneinforef02: Same, Valid, Fail, Take. Conditions: cursors within their input.
-/
import Derived.Test.YtbajdlgcajeldaaGreatDoorCu
import Derived.Test.YtbajdlgcajeldaaGreatDoorSame1
import Derived.Test.YtbajdlgcajeldaaGreatDoorBase2
import Derived.Deep.RegionHeld3
import Derived.Deep.DeepCutAuto
import Derived.BigQuiet
namespace Go.Proofs.YtbajdlgcajeldaaGreatDoor
open Go.ChangeShapes Go.WideShapes Go.ChangeAt Go.RowKit
set_option linter.unusedVariables false
namespace r2_
theorem Same (A : Option Addr) (n c : Nat) (p x a : Int) (l : List Int) (w : World) (hn : n ≤ 9223372036854775807) (hr : Rd w A n (l.map (Value.int .u8))) :
    Calls Tryz.prog 11 #[cu A n c p x a, cu A n c p x a] w fun e w' => e = .returned (.bool true) ∧ Below w.heap.size w w' := by
  go_enter Tryz.func11, Tryz.ntmps11
  go_wp2_with fail
  refine (r1_.Same _ _ _ _ _ _ l _ hn ((hr.alloc _).alloc _) ((hr.alloc _).alloc _)).mono ?_
  rintro e w1 ⟨rfl, hb⟩
  obtain ⟨hc, hf⟩ := bcell hb
  have hz : w.heap.size + 1 < w1.heap.size := by have := hb.size; simp at this; omega
  have hb := hide (bel_next (bl_alloc (bl_new _ _) _) hb)
  go_wp2
  go_ret
  exact ⟨rfl, hb.out⟩
def validB (n : Nat) (p x a : Int) : Bool := decide (0 ≤ p ∧ p ≤ n ∧ (x ≠ 0 ∨ a = 0) ∧ n ≤ 2000)
theorem Valid_yes (A : Option Addr) (n c : Nat) (p x a : Int) (w : World) (h0 : 0 ≤ p) (h1 : p ≤ n) (h2 : x ≠ 0 ∨ a = 0) (h3 : n ≤ 2000) :
    Calls Tryz.prog 5 #[cu A n c p x a] w fun e w' => e = .returned (.bool true) ∧ Below w.heap.size w w' := by
  by_cases hx : x = 0
  · obtain rfl : a = 0 := by omega
    subst hx
    clear h2
    go_enter Tryz.func5, Tryz.ntmps5
    go_wp2
    go_ret
    exact ⟨retb (by simp; omega), bl_new _ _⟩
  · clear h2
    go_enter Tryz.func5, Tryz.ntmps5
    go_wp2
    go_ret
    exact ⟨retb (by simp; omega), bl_new _ _⟩
theorem Valid_no (A : Option Addr) (n c : Nat) (p x a : Int) (w : World) (h : ¬ (0 ≤ p ∧ p ≤ n ∧ (x ≠ 0 ∨ a = 0) ∧ n ≤ 2000)) :
    Calls Tryz.prog 5 #[cu A n c p x a] w fun e w' => e = .returned (.bool false) ∧ Below w.heap.size w w' := by
  have main : ∀ (_ : p < 0 ∨ (0 ≤ p ∧ (n : Int) < p) ∨ (0 ≤ p ∧ p ≤ n ∧ x = 0 ∧ a ≠ 0) ∨ (0 ≤ p ∧ p ≤ n ∧ x ≠ 0 ∧ 2000 < n) ∨ (0 ≤ p ∧ p ≤ n ∧ x = 0 ∧ a = 0 ∧ 2000 < n)), Calls Tryz.prog 5 #[cu A n c p x a] w fun e w' => e = .returned (.bool false) ∧ Below w.heap.size w w' := by
    clear h
    rintro (h | ⟨h, h'⟩ | ⟨h, h', rfl, h''⟩ | ⟨h, h', h'', h4⟩ | ⟨h, h', rfl, rfl, h4⟩)
    all_goals
      go_enter Tryz.func5, Tryz.ntmps5
      go_wp2
      go_ret
      exact ⟨retb (by simp; try omega), bl_new _ _⟩
  exact main (by omega)
theorem Fail_ok (A : Option Addr) (n c : Nat) (p a y at_ : Int) (w : World) (hy : y ≠ 0) :
    Calls Tryz.prog 26 #[cu A n c p 0 a, .int .i64 y, .int .i64 at_] w fun e w' => e = .returned (cu A n c p y at_) ∧ Below w.heap.size w w' := by
  have hq : (y == 0) = false := by simpa using hy
  go_enter Tryz.func26, Tryz.ntmps26
  go_wp2
  exact bodyPost_ret (v := cu A n c p y at_) (by simp [results, Tryz.results26, go_sem]) rfl ⟨rfl, bl_alloc (bl_new _ _) _⟩
theorem Fail_err (A : Option Addr) (n c : Nat) (p x a y at_ : Int) (w : World) (hx : x ≠ 0) :
    Calls Tryz.prog 26 #[cu A n c p x a, .int .i64 y, .int .i64 at_] w fun e w' => e = .returned (cu A n c p x a) ∧ Below w.heap.size w w' := by
  have hq : (x != 0) = true := by simpa using hx
  go_enter Tryz.func26, Tryz.ntmps26
  go_wp2
  exact bodyPost_ret (v := cu A n c p x a) (by simp [results, Tryz.results26, go_sem]) rfl ⟨rfl, bl_alloc (bl_new _ _) _⟩
theorem elU2_ : ElT Tryz.prog 22 5 (.int .u8 0) 1 := ⟨Tryz.underlying22, by kernel_rfl, rfl⟩
set_option maxHeartbeats 4000000 in
theorem Take_yes (A : Option Addr) (n c : Nat) (xs : List Int) (p k : Nat) (a : Int) (w : World) (hm : n ≤ 1000000) (h1 : p + k ≤ n) (hr : Rd w A n (xs.map (Value.int .u8))) :
    Calls Tryz.prog 28 #[cu A n c p 0 a, .int .i64 k] w fun e w' => ∃ A' c', e = .returned (.tuple #[.slice A' k c', cu A n c ((p + k : Nat) : Int) 0 a]) ∧
      Ow w' w.heap.size 5 A' k c' ((fld xs p k).map (Value.int .u8)) ∧ Below w.heap.size w w' := by
  have hl : xs.length = n := by have := hr.len; simpa using this
  have HR := hide (fun W (hb : Below w.heap.size w W) => hr.below hb)
  have d1 : decide ((k : Int) < 0) = false := by simp
  have d2 : decide ((n : Int) - (p : Int) < (k : Int)) = false := by simp; omega
  have d3 : IntKind.i64.wrap ((n : Int) - (p : Int)) = (n : Int) - (p : Int) := by rw [IntKind.wrap_i64]; omega
  have HL := hide hl
  clear hl hr
  go_enter Tryz.func28, Tryz.ntmps28
  have hb := hide (bl_alloc (bl_new w (.cells #[.slice A n c, .int .i64 p, .int .i64 0, .int .i64 a] 25)) (.cells #[.slice none 0 0, .int .i64 0, .int .i64 0, .int .i64 0] 25))
  have bx := hide ((Bx.new w [.slice A n c, .int .i64 p, .int .i64 0, .int .i64 a] 25).alloc (.cells #[.slice none 0 0, .int .i64 0, .int .i64 0, .int .i64 0] 25))
  have by_ := hide (Bx.snd4 w (.cells #[.slice A n c, .int .i64 p, .int .i64 0, .int .i64 a] 25) (.slice none 0 0) (.int .i64 0) (.int .i64 0) (.int .i64 0) 25)
  have hw0 := hide (show ((w.alloc (.cells #[.slice A n c, .int .i64 p, .int .i64 0, .int .i64 a] 25)).alloc (.cells #[.slice none 0 0, .int .i64 0, .int .i64 0, .int .i64 0] 25)).heap.size = w.heap.size + 2 by simp)
  go_upto_region 1 with fail
  generalize ((w.alloc (.cells #[.slice A n c, .int .i64 p, .int .i64 0, .int .i64 a] 25)).alloc (.cells #[.slice none 0 0, .int .i64 0, .int .i64 0, .int .i64 0] 25)) = w0 at *
  obtain ⟨x0, x1, x2, x3⟩ := bx.out.cells4
  go_upto_region 5 with fail
  clear x0 x1 x2 x3
  go_wp2_with fail
  go_loopw [6, 7] (fun sv iv wr => ∃ (i : Nat) (A1 : Option Addr) (c1 : Nat), i ≤ k ∧ iv = .int .i64 (i : Nat) ∧ sv = .slice A1 i c1 ∧ Hid (Ow wr (w.heap.size + 2) 5 A1 i c1 ((fld xs p i).map (Value.int .u8))) ∧ Hid (Below w.heap.size w wr) ∧ Hid (Bx wr w.heap.size [.slice A n c, .int .i64 p, .int .i64 0, .int .i64 a]) ∧ Hid (Bx wr (w.heap.size + 1) [.slice none 0 0, .int .i64 0, .int .i64 0, .int .i64 0])) (fun _ i _ => k - (intOf i).toNat)
  case atStart => exact ⟨0, none, 0, by omega, rfl, rfl, hide (Ow.nil (by rw [hw0.out]; exact Nat.le_refl _) _), hb, bx, by_⟩
  case round =>
    clear hb bx by_
    obtain ⟨i, A1, c1, hi, rfl, rfl, ho, hb, bx, by_⟩ := hrel
    by_cases hlt : i < k
    · have hik : (i : Int) < (k : Int) := by omega
      obtain ⟨j, hj⟩ : ∃ j, j = p + i := ⟨_, rfl⟩
      have hjn : j < n := by omega
      have hjn2 : (j : Int) < (n : Int) := by omega
      have ej : IntKind.i64.wrap ((p : Int) + (i : Int)) = (j : Int) := by rw [IntKind.wrap_i64]; omega
      obtain ⟨ad, rfl, hc⟩ := (HR.out _ hb.out).int hjn
      have hx : xs[j]? = some (xs[j]?.getD 0) := by rw [List.getElem?_eq_getElem (by rw [HL.out]; exact hjn)]; rfl
      generalize xs[j]?.getD 0 = x at *
      have hst := hide (show fld xs p (i + 1) = fld xs p i ++ [x] by unfold fld; rw [List.take_add_one, List.getElem?_drop, ← hj, hx]; rfl)
      have x0 := bx.out.2.1 0 _ rfl
      have x1 := bx.out.2.1 1 _ rfl
      replace hj := hide hj
      clear hx
      go_wp2_with (at_builtin; refine ap1A elU2_ ho.out hb.out (by omega) (.tmp 34) (.tmp 43) (.int .u8 x) rfl rfl rfl rfl rfl (by unfold maxLen; omega) (by omega) ?_; intro A6 c6 w6 ho6 hb6 hg6)
      have bx6 := hide (hg6.bx (bx.out.alloc (.cells #[.int .u8 x] 5)) (fun h => by have := (ho.out.blk h).1; omega))
      have by6 := hide (hg6.bx (by_.out.alloc (.cells #[.int .u8 x] 5)) (fun h => by have := (ho.out.blk h).1; omega))
      clear x0 x1 hg6
      go_roundw
      case rel => exact ⟨i + 1, A6, c6, by omega, by go_num, rfl, hide (by rw [hst.out, List.map_append]; exact ho6), hide hb6, bx6, by6⟩
      case measure => simp [intOf]; omega
    · obtain rfl : i = k := by omega
      obtain ⟨x0, x1, x2, x3⟩ := bx.out.cells4
      obtain ⟨y0, y1, y2, y3⟩ := by_.out.cells4
      have xf := bx.out.fr
      have yf := by_.out.fr
      have e1 : IntKind.i64.wrap ((p : Int) + (i : Int)) = ((p + i : Nat) : Int) := by rw [IntKind.wrap_i64]; omega
      have hz : w.heap.size + 1 < wr.heap.size := by_.out.lt
      go_upto_region 11 with fail
      have bx1 := bx.out.set 1 (.int .i64 ((p : Int) + (i : Int))) (by simp)
      have by1 := by_.out.set_ne (g' := w.heap.size) 1 (by omega) (.int .i64 ((p : Int) + (i : Int)))
      have ho1 := hide (ho.out.setLow (g := w.heap.size) 1 (by omega) (.int .i64 ((p : Int) + (i : Int))))
      have hb1 := hide (bl_set (o := 1) hb.out (Nat.le_refl _) (.int .i64 ((p : Int) + (i : Int))))
      clear x0 x1 x2 x3 y0 y1 y2 y3 xf yf bx by_ ho hb hz
      generalize (wr.setCell ⟨w.heap.size, 1, none⟩ (.int .i64 ((p : Int) + (i : Int)))) = w5 at *
      obtain ⟨x0, x1, x2, x3⟩ := bx1.cells4
      obtain ⟨y0, y1, y2, y3⟩ := by1.cells4
      have yf := by1.fr
      have hz : w.heap.size + 1 < w5.heap.size := by1.lt
      go_region
      have ho5 := ((((ho1.out.setLow (g := w.heap.size + 1) 0 (by omega) (.slice A n c)).setLow (g := w.heap.size + 1) 1 (by omega) (.int .i64 ((p : Int) + (i : Int)))).setLow (g := w.heap.size + 1) 2 (by omega) (.int .i64 0)).setLow (g := w.heap.size + 1) 3 (by omega) (.int .i64 a)).drew
      have hb5 := bl_drew (bl_set4 (a := .slice A n c) (b := .int .i64 ((p : Int) + (i : Int))) (c := .int .i64 0) (d := .int .i64 a) hb1.out (Nat.le_succ w.heap.size))
      have bx5 := by1.store4 (a := .slice A n c) (b := .int .i64 ((p : Int) + (i : Int))) (c := .int .i64 0) (d := .int .i64 a)
      obtain ⟨z0, z1, z2, z3⟩ := bx5.drew.cells4
      go_wp2
      exact bodyPost_ret (v := .tuple #[.slice A1 i c1, cu A n c ((p + i : Nat) : Int) 0 a]) (by simp [results, Tryz.results28, go_sem, z0, z1, z2, z3]) rfl ⟨A1, c1, rfl, ho5.mono (b' := w.heap.size) (by omega), hb5⟩
end r2_
end Go.Proofs.YtbajdlgcajeldaaGreatDoor
