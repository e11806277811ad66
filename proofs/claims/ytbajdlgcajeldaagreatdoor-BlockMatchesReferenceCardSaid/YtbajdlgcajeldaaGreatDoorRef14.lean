/-
  CONTRACTS OF PACKAGE zoneinforef14 (the reference of layer 14). Conditions: counts of 32 bits, a time size of 4 or 8.
-/
import Derived.Test.YtbajdlgcajeldaaGreatDoorRows
import Derived.Test.YtbajdlgcajeldaaGreatDoorBase2
import Derived.BigQuiet
import Derived.Deep.DeepCutAuto
namespace Go.Proofs.YtbajdlgcajeldaaGreatDoor
open Go.ChangeShapes Go.WideShapes Go.ChangeAt Go.RowKit
set_option linter.unusedVariables false
def C32 (x : Int) : Prop := 0 ≤ x ∧ x < 4294967296
/-- six counts of 32 bits and a time size. -/
structure LyC (a b c d x y s : Int) : Prop where
  a : C32 a
  b : C32 b
  c : C32 c
  d : C32 d
  x : C32 x
  y : C32 y
  s : s = 4 ∨ s = 8
@[reducible] def hdV (v a b c d x y : Int) : Value := .agg #[.int .i64 v, .int .u32 a, .int .u32 b, .int .u32 c, .int .u32 d, .int .u32 x, .int .u32 y]
@[reducible] def lenV (a b c d x y s : Int) : Value := .agg #[.int .u64 (d * s), .int .u64 d, .int .u64 (6 * x), .int .u64 y, .int .u64 (c * (s + 4)), .int .u64 b, .int .u64 a]
def lenL (a b c d x y s : Int) : List Int := [d * s, d, 6 * x, y, c * (s + 4), b, a]
/-- the sum of the first k lengths. -/
def pre : List Int → Nat → Int
  | _, 0 => 0
  | [], _ => 0
  | x :: l, k + 1 => x + pre l k
theorem pre_succ : ∀ (l : List Int) (k : Nat) (x : Int), l[k]? = some x → pre l (k + 1) = pre l k + x
  | [], k, x, h => by simp at h
  | y :: l, 0, x, h => by simp at h; subst h; simp [pre]
  | y :: l, k + 1, x, h => by
    have := pre_succ l k x (by simpa using h)
    show y + pre l (k + 1) = y + pre l k + x
    omega
theorem pre_bd : ∀ (l : List Int) (k : Nat) (M : Int), 0 ≤ M → (∀ x ∈ l, 0 ≤ x ∧ x ≤ M) → 0 ≤ pre l k ∧ pre l k ≤ l.length * M
  | l, 0, M, hM, h => by
    refine ⟨by cases l <;> simp [pre], ?_⟩
    have : (0 : Int) ≤ l.length * M := Int.mul_nonneg (by omega) hM
    have e : pre l 0 = 0 := by cases l <;> rfl
    rw [e]
    exact this
  | [], k + 1, M, hM, h => by simp [pre]
  | y :: l, k + 1, M, hM, h => by
    have h1 := pre_bd l k M hM (fun x hx => h x (by simp [hx]))
    have h2 := h y (by simp)
    have e : ((y :: l).length : Int) * M = l.length * M + M := by simp [Int.add_mul]
    rw [e]
    show 0 ≤ y + pre l k ∧ y + pre l k ≤ _
    omega
theorem len_bd {a b c d x y s : Int} (h : LyC a b c d x y s) : ∀ t ∈ lenL a b c d x y s, 0 ≤ t ∧ t ≤ 51539607552 := by
  obtain ⟨⟨a0, a1⟩, ⟨b0, b1⟩, ⟨c0, c1⟩, ⟨d0, d1⟩, ⟨x0, x1⟩, ⟨y0, y1⟩, hs⟩ := h
  intro t ht
  unfold lenL at ht
  rcases hs with rfl | rfl
  all_goals
    simp at ht
    omega
@[reducible] def offV (a b c d x y s : Int) : Value := .agg #[.int .u64 0, .int .u64 (d * s), .int .u64 (d * s + d), .int .u64 (d * s + d + 6 * x), .int .u64 (d * s + d + 6 * x + y), .int .u64 (d * s + d + 6 * x + y + c * (s + 4)), .int .u64 (d * s + d + 6 * x + y + c * (s + 4) + b), .int .u64 (d * s + d + 6 * x + y + c * (s + 4) + b + a)]
@[reducible] def totV (a b c d x y s : Int) : Int := d * s + d + 6 * x + y + c * (s + 4) + b + a
namespace r14_
theorem SizeB (b : Bool) (w : World) : Calls Tryz.prog 7 #[.bool b] w fun e w' => e = .returned (.int .i64 (if b then 8 else 4)) ∧ Below w.heap.size w w' := by
  cases b
  all_goals
    go_enter Tryz.func7, Tryz.ntmps7
    go_wp2
    go_ret
    exact ⟨rfl, bl_refl _⟩
theorem Lengths (v a b c d x y s : Int) (w : World) (h : LyC a b c d x y s) : Calls Tryz.prog 27 #[hdV v a b c d x y, .int .i64 s] w fun e w' => e = .returned (lenV a b c d x y s) ∧ Below w.heap.size w w' := by
  obtain ⟨⟨a0, a1⟩, ⟨b0, b1⟩, ⟨c0, c1⟩, ⟨d0, d1⟩, ⟨x0, x1⟩, ⟨y0, y1⟩, hs⟩ := h
  have hb := hide (bl_refl w)
  rcases hs with rfl | rfl
  · go_enter Tryz.func27, Tryz.ntmps27
    go_wp2
    exact bodyPost_ret (v := lenV a b c d x y 4) (by simp [results, Tryz.results27, go_sem]) rfl ⟨rfl, bl_alloc (bl_new _ _) _⟩
  · go_enter Tryz.func27, Tryz.ntmps27
    go_wp2
    exact bodyPost_ret (v := lenV a b c d x y 8) (by simp [results, Tryz.results27, go_sem]) rfl ⟨rfl, bl_alloc (bl_new _ _) _⟩
/-- the cells of a row of lengths. -/
theorem cell_l {w : World} {g : Nat} {l : List Int} (h : Bx w g (l.map (Value.int .u64))) {k : Nat} {x : Int} (hx : l[k]? = some x) : w.cell? ⟨g, k, none⟩ = some (.int .u64 x) := h.2.1 k _ (by rw [List.getElem?_map, hx]; rfl)
theorem Sum (v a b c d x y s : Int) (w : World) (h : LyC a b c d x y s) : Calls Tryz.prog 25 #[hdV v a b c d x y, .int .i64 s] w fun e w' => e = .returned (.int .u64 (totV a b c d x y s)) ∧ Below w.heap.size w w' := by
  have hbd := hide (len_bd h)
  have L := hide (fun w => Lengths v a b c d x y s w h)
  have hT : pre (lenL a b c d x y s) 7 = totV a b c d x y s := by simp [pre, lenL, totV]; omega
  have hlen : (lenL a b c d x y s).length = 7 := rfl
  have hPb := hide (fun k => pre_bd (lenL a b c d x y s) k 51539607552 (by decide) hbd.out)
  have hP := hide (pre_succ (lenL a b c d x y s))
  have hg := hide (fun k (hk : k < 7) => show ∃ t : Int, (lenL a b c d x y s)[k]? = some t ∧ 0 ≤ t ∧ t ≤ 51539607552 from ⟨_, List.getElem?_eq_getElem (by rw [hlen]; exact hk), hbd.out _ (List.getElem_mem _)⟩)
  have hb := hide (bl_new w (.cells #[.int .i64 v, .int .u32 a, .int .u32 b, .int .u32 c, .int .u32 d, .int .u32 x, .int .u32 y] 28))
  have hm := hide (show (lenL a b c d x y s).map (Value.int .u64) = [.int .u64 (d * s), .int .u64 d, .int .u64 (6 * x), .int .u64 y, .int .u64 (c * (s + 4)), .int .u64 b, .int .u64 a] from rfl)
  replace hT := hide hT
  generalize lenL a b c d x y s = l at *
  clear h hbd
  go_enter Tryz.func25, Tryz.ntmps25
  go_wp2_with fail
  refine (L.out _).mono ?_
  rintro e w1 ⟨rfl, h1⟩
  replace hb := hide (bel_next hb.out h1)
  clear h1
  have bx : Hid (Bx (w1.alloc (.cells #[.int .u64 (d * s), .int .u64 d, .int .u64 (6 * x), .int .u64 y, .int .u64 (c * (s + 4)), .int .u64 b, .int .u64 a] 62)) w1.heap.size (l.map (Value.int .u64))) := hide (by rw [hm.out]; exact Bx.new w1 [.int .u64 (d * s), .int .u64 d, .int .u64 (6 * x), .int .u64 y, .int .u64 (c * (s + 4)), .int .u64 b, .int .u64 a] 62)
  replace hb := hide (bl_alloc hb.out (.cells #[.int .u64 (d * s), .int .u64 d, .int .u64 (6 * x), .int .u64 y, .int .u64 (c * (s + 4)), .int .u64 b, .int .u64 a] 62))
  go_upto_region 3 with fail
  generalize (w1.alloc (.cells #[.int .u64 (d * s), .int .u64 d, .int .u64 (6 * x), .int .u64 y, .int .u64 (c * (s + 4)), .int .u64 b, .int .u64 a] 62)) = w2 at *
  go_wp2
  go_loop [5, 7] (fun n i => ∃ (k : Nat) (t : Int), k ≤ 7 ∧ i = .int .i64 k ∧ n = .int .u64 t ∧ Hid (t = pre l k)) (fun _ i => 7 - (intOf i).toNat)
  case atStart => exact ⟨0, 0, by omega, rfl, rfl, hide (by cases l <;> rfl)⟩
  case round =>
    obtain ⟨k, t, hk, rfl, rfl, ht⟩ := hrel
    rcases Nat.lt_or_ge k 7 with hlt | hge
    · obtain ⟨z, hz, z0, z1⟩ := hg.out k hlt
      have hc := cell_l bx.out hz
      have e1 := hP.out k z hz
      have b1 := hPb.out k
      rw [← ht.out] at e1 b1
      have hl7 : (l.length : Int) = 7 := by have := congrArg List.length hm.out; simp at this; omega
      rw [hl7] at b1
      obtain ⟨b1, b2⟩ := b1
      replace e1 := hide e1
      clear hz
      go_wp2
      go_round
      case rel => exact ⟨k + 1, t + z, by omega, by go_num, by go_num, hide e1.out.symm⟩
      case measure => simp [intOf]; omega
    · obtain rfl : k = 7 := by omega
      go_wp2
      go_ret
      exact ⟨reti (by rw [ht.out, hT.out]), hb.out⟩
/-- Offsets' row while it is filled: done before i, at i the sum of the first k, nothing behind. -/
def outL (l : List Int) (i k : Nat) : List Int := (List.range 8).map fun j => if j < i then pre l j else if j = i then pre l k else 0
theorem outL_len (l : List Int) (i k : Nat) : (outL l i k).length = 8 := by simp [outL]
theorem outL_at (l : List Int) {i : Nat} (k : Nat) (hi : i < 8) : (outL l i k)[i]? = some (pre l k) := by
  unfold outL
  rw [List.getElem?_map, List.getElem?_range hi]
  simp
theorem outL_set (l : List Int) {i : Nat} (k k' : Nat) (hi : i < 8) : (outL l i k).set i (pre l k') = outL l i k' := by
  apply List.ext_getElem?
  intro j
  by_cases hj : j = i
  · subst hj
    rw [List.getElem?_set_self (by rw [outL_len]; exact hi), outL_at l k' hi]
  · rw [List.getElem?_set_ne (fun h => hj h.symm)]
    unfold outL
    rw [List.getElem?_map, List.getElem?_map]
    by_cases h8 : j < 8
    · rw [List.getElem?_range h8]
      simp [hj]
    · rw [List.getElem?_eq_none (by simp; omega)]
      rfl
theorem outL_next (l : List Int) (i : Nat) : outL l i i = outL l (i + 1) 0 := by
  unfold outL
  apply List.map_congr_left
  intro j _
  have h0 : pre l 0 = 0 := by cases l <;> rfl
  by_cases h1 : j < i
  · rw [if_pos h1, if_pos (by omega)]
  · by_cases h2 : j = i
    · rw [if_neg h1, if_pos h2, if_pos (by omega), h2]
    · rw [if_neg h1, if_neg h2, if_neg (by omega)]
      split
      · exact h0.symm
      · rfl
theorem out0 (l : List Int) : outL l 0 0 = [0, 0, 0, 0, 0, 0, 0, 0] := by
  have h0 : pre l 0 = 0 := by cases l <;> rfl
  unfold outL
  rw [h0]
  rfl
theorem bx_snd (w : World) (o : Obj) (vs : List Value) (T : TypeId) : Bx ((w.alloc o).alloc (.cells vs.toArray T)) (w.heap.size + 1) vs := by
  have := Bx.new (w.alloc o) vs T
  rwa [show (w.alloc o).heap.size = w.heap.size + 1 by simp] at this
theorem cells7' {w : World} {g : Nat} {a b c d e f k : Value} (h : Bx w g [a, b, c, d, e, f, k]) : w.cell? ⟨g, 0, none⟩ = some a ∧ w.cell? ⟨g, 1, none⟩ = some b ∧ w.cell? ⟨g, 2, none⟩ = some c ∧ w.cell? ⟨g, 3, none⟩ = some d ∧ w.cell? ⟨g, 4, none⟩ = some e ∧ w.cell? ⟨g, 5, none⟩ = some f ∧ w.cell? ⟨g, 6, none⟩ = some k :=
  ⟨h.2.1 0 _ rfl, h.2.1 1 _ rfl, h.2.1 2 _ rfl, h.2.1 3 _ rfl, h.2.1 4 _ rfl, h.2.1 5 _ rfl, h.2.1 6 _ rfl⟩
theorem cells8 {w : World} {g : Nat} {a b c d e f k m : Value} (h : Bx w g [a, b, c, d, e, f, k, m]) : w.cell? ⟨g, 0, none⟩ = some a ∧ w.cell? ⟨g, 1, none⟩ = some b ∧ w.cell? ⟨g, 2, none⟩ = some c ∧ w.cell? ⟨g, 3, none⟩ = some d ∧ w.cell? ⟨g, 4, none⟩ = some e ∧ w.cell? ⟨g, 5, none⟩ = some f ∧ w.cell? ⟨g, 6, none⟩ = some k ∧ w.cell? ⟨g, 7, none⟩ = some m :=
  ⟨h.2.1 0 _ rfl, h.2.1 1 _ rfl, h.2.1 2 _ rfl, h.2.1 3 _ rfl, h.2.1 4 _ rfl, h.2.1 5 _ rfl, h.2.1 6 _ rfl, h.2.1 7 _ rfl⟩
end r14_
end Go.Proofs.YtbajdlgcajeldaaGreatDoor
