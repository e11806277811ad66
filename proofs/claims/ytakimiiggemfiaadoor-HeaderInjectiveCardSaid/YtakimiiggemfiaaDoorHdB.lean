/-
  CONTRACTS OF header.decodeVersion AND header.decodeCounts, of the code that landed at fefc8ef. Conditions: what each states of cursor.Uint.
-/
import Derived.Test.YtakimiiggemfiaaDoorHdA
namespace Go.Proofs.YtakimiiggemfiaaDoor
open Go.ChangeShapes Go.WideShapes Go.ChangeAt Go.RowKit
set_option linter.unusedVariables false
namespace hd_
def vtab : List Int := [0, 50, 51, 52]
theorem vix0 (w : World) : (Instr.index 40 (.agg #[.int .u8 0, .int .u8 50, .int .u8 51, .int .u8 52]) (.int .i64 0)).run Tryd.prog w = .ok (.int .u8 0) w := rfl
theorem vix1 (w : World) : (Instr.index 40 (.agg #[.int .u8 0, .int .u8 50, .int .u8 51, .int .u8 52]) (.int .i64 1)).run Tryd.prog w = .ok (.int .u8 50) w := rfl
theorem vix2 (w : World) : (Instr.index 40 (.agg #[.int .u8 0, .int .u8 50, .int .u8 51, .int .u8 52]) (.int .i64 2)).run Tryd.prog w = .ok (.int .u8 51) w := rfl
theorem vix3 (w : World) : (Instr.index 40 (.agg #[.int .u8 0, .int .u8 50, .int .u8 51, .int .u8 52]) (.int .i64 3)).run Tryd.prog w = .ok (.int .u8 52) w := rfl
set_option maxHeartbeats 1000000 in
/-- the version byte is known: the m-th of the table. -/
theorem ver_yes (A : Option Addr) (n c : Nat) (p x a v p' x' a' : Int) (m : Nat) (w : World) (hT : Th w)
    (N : ∀ w1, Below w.heap.size w w1 → Calls Tryd.prog 22 #[cu A n c p x a, .int .i64 1] w1 fun e w' => e = .returned (.tuple #[.int .u64 v, cu A n c p' x' a']) ∧ Below w1.heap.size w1 w')
    (hm : m < 4) (hv : vtab[m]? = some v) :
    Calls Tryd.prog 17 #[cu A n c p x a] w fun e w' => e = .returned (.tuple #[.int .i64 (m + 1), cu A n c p' x' a']) ∧ Below w.heap.size w w' := by
  have HN := hide N
  have HT := hide hT
  clear N hT
  have hb := hide (bl_alloc (bl_new w (.cells #[.slice A n c, .int .i64 p, .int .i64 x, .int .i64 a] 30)) (.cells #[.slice none 0 0, .int .i64 0, .int .i64 0, .int .i64 0] 30))
  go_enter Tryd.func17, Tryd.ntmps17
  go_wp2_with fail
  refine (HN.out _ hb.out).mono ?_
  rintro e w1 ⟨rfl, h1⟩
  have hz : w.heap.size + 1 < w1.heap.size := by have := h1.size; simp at this; omega
  have B1 := hide ((Bx.snd4 w (.cells #[.slice A n c, .int .i64 p, .int .i64 x, .int .i64 a] 30) (.slice none 0 0) (.int .i64 0) (.int .i64 0) (.int .i64 0) 30).below h1)
  replace hb := hide (bel_next hb.out h1)
  replace HT := hide (HT.out.below hb.out)
  clear h1
  replace HT := hide (HT.out.below (bl_new w1 (.cells #[.slice A n c, .int .i64 p', .int .i64 x', .int .i64 a'] 30)))
  obtain ⟨t0, t1, t2, t3⟩ := HT.out.cells
  have i0 := vix0
  have i1 := vix1
  have i2 := vix2
  have i3 := vix3
  go_wp2
  go_loop [14] (fun i => ∃ k : Nat, k ≤ m ∧ i = .int .i64 (k : Nat)) (fun i => m - (intOf i).toNat)
  case atStart => exact ⟨0, by omega, rfl⟩
  case round =>
    obtain ⟨k, hk, rfl⟩ := hrel
    obtain ⟨x0, x1, x2, x3⟩ := B1.out.cells4
    have yf := B1.out.fr
    have hcase : k < m ∨ k = m := by omega
    rcases hcase with hlt | rfl
    · have hneq : ∃ y : Int, vtab[k]? = some y ∧ v ≠ y ∧ (v == y) = false := by
        have : m = 1 ∨ m = 2 ∨ m = 3 := by omega
        rcases this with rfl | rfl | rfl
        all_goals
          injection hv with hv
          subst hv
          have : k = 0 ∨ k = 1 ∨ k = 2 := by omega
          rcases this with rfl | rfl | rfl
          all_goals first | omega | exact ⟨_, rfl, by decide, by decide⟩
      obtain ⟨y, hy, hne, hne2⟩ := hneq
      have hk3 : k = 0 ∨ k = 1 ∨ k = 2 := by omega
      clear hv
      rcases hk3 with rfl | rfl | rfl
      all_goals
        injection hy with hy
        subst hy
        go_wp2
        go_round
        case rel => exact ⟨_, hlt, by go_num⟩
        case measure => simp [intOf]; omega
    · have hk4 : k = 0 ∨ k = 1 ∨ k = 2 ∨ k = 3 := by omega
      rcases hk4 with rfl | rfl | rfl | rfl
      · injection hv with hv
        subst hv
        go_wp2
        clear HT t0 t1 t2 t3 i0 i1 i2 i3
        go_region
        all_goals go_wp2
        all_goals
          refine bodyPost_ret (v := .tuple #[.int .i64 1, cu A n c p' x' a']) (by simp [results, Tryd.results17, go_sem, x0, x1, x2, x3, hz]) rfl ⟨rfl, ?_⟩
          repeat (first | exact hb.out | refine bl_set ?_ (by omega) _ | refine bl_drew ?_ | refine bl_alloc ?_ _)
      · injection hv with hv
        subst hv
        go_wp2
        clear HT t0 t1 t2 t3 i0 i1 i2 i3
        go_region
        all_goals go_wp2
        all_goals
          refine bodyPost_ret (v := .tuple #[.int .i64 2, cu A n c p' x' a']) (by simp [results, Tryd.results17, go_sem, x0, x1, x2, x3, hz]) rfl ⟨rfl, ?_⟩
          repeat (first | exact hb.out | refine bl_set ?_ (by omega) _ | refine bl_drew ?_ | refine bl_alloc ?_ _)
      · injection hv with hv
        subst hv
        go_wp2
        clear HT t0 t1 t2 t3 i0 i1 i2 i3
        go_region
        all_goals go_wp2
        all_goals
          refine bodyPost_ret (v := .tuple #[.int .i64 3, cu A n c p' x' a']) (by simp [results, Tryd.results17, go_sem, x0, x1, x2, x3, hz]) rfl ⟨rfl, ?_⟩
          repeat (first | exact hb.out | refine bl_set ?_ (by omega) _ | refine bl_drew ?_ | refine bl_alloc ?_ _)
      · injection hv with hv
        subst hv
        go_wp2
        clear HT t0 t1 t2 t3 i0 i1 i2 i3
        go_region
        all_goals go_wp2
        all_goals
          refine bodyPost_ret (v := .tuple #[.int .i64 4, cu A n c p' x' a']) (by simp [results, Tryd.results17, go_sem, x0, x1, x2, x3, hz]) rfl ⟨rfl, ?_⟩
          repeat (first | exact hb.out | refine bl_set ?_ (by omega) _ | refine bl_drew ?_ | refine bl_alloc ?_ _)
set_option maxHeartbeats 1000000 in
/-- the version byte is none of the table: the cursor stays. -/
theorem ver_no (A : Option Addr) (n c : Nat) (p a v p' x' a' : Int) (w : World) (hT : Th w)
    (N : ∀ w1, Below w.heap.size w w1 → Calls Tryd.prog 22 #[cu A n c p 0 a, .int .i64 1] w1 fun e w' => e = .returned (.tuple #[.int .u64 v, cu A n c p' x' a']) ∧ Below w1.heap.size w1 w')
    (v0 : (v == 0) = false) (v1 : (v == 50) = false) (v2 : (v == 51) = false) (v3 : (v == 52) = false) :
    Calls Tryd.prog 17 #[cu A n c p 0 a] w fun e w' => e = .returned (.tuple #[.int .i64 0, cu A n c p 4 p]) ∧ Below w.heap.size w w' := by
  have HN := hide N
  have HT := hide hT
  clear N hT
  have hb := hide (bl_alloc (bl_new w (.cells #[.slice A n c, .int .i64 p, .int .i64 0, .int .i64 a] 30)) (.cells #[.slice none 0 0, .int .i64 0, .int .i64 0, .int .i64 0] 30))
  go_enter Tryd.func17, Tryd.ntmps17
  go_wp2_with fail
  refine (HN.out _ hb.out).mono ?_
  rintro e w1 ⟨rfl, h1⟩
  have hz : w.heap.size + 1 < w1.heap.size := by have := h1.size; simp at this; omega
  have B1 := hide ((Bx.snd4 w (.cells #[.slice A n c, .int .i64 p, .int .i64 0, .int .i64 a] 30) (.slice none 0 0) (.int .i64 0) (.int .i64 0) (.int .i64 0) 30).below h1)
  replace hb := hide (bel_next hb.out h1)
  have B0 := hide (((Bx.new4 w (.slice A n c) (.int .i64 p) (.int .i64 0) (.int .i64 a) 30).alloc (.cells #[.slice none 0 0, .int .i64 0, .int .i64 0, .int .i64 0] 30)).below h1)
  replace HT := hide (HT.out.below hb.out)
  clear h1
  replace HT := hide (HT.out.below (bl_new w1 (.cells #[.slice A n c, .int .i64 p', .int .i64 x', .int .i64 a'] 30)))
  obtain ⟨t0, t1, t2, t3⟩ := HT.out.cells
  have i0 := vix0
  have i1 := vix1
  have i2 := vix2
  have i3 := vix3
  go_wp2
  go_loop [14] (fun i => ∃ k : Nat, k ≤ 4 ∧ i = .int .i64 (k : Nat)) (fun i => 4 - (intOf i).toNat)
  case atStart => exact ⟨0, by omega, rfl⟩
  case round =>
    obtain ⟨k, hk, rfl⟩ := hrel
    have hk3 : k = 0 ∨ k = 1 ∨ k = 2 ∨ k = 3 ∨ k = 4 := by omega
    rcases hk3 with rfl | rfl | rfl | rfl | rfl
    · go_wp2
      go_round
      case rel => exact ⟨1, by omega, by go_num⟩
      case measure => simp [intOf]
    · go_wp2
      go_round
      case rel => exact ⟨2, by omega, by go_num⟩
      case measure => simp [intOf]
    · go_wp2
      go_round
      case rel => exact ⟨3, by omega, by go_num⟩
      case measure => simp [intOf]
    · go_wp2
      go_round
      case rel => exact ⟨4, by omega, by go_num⟩
      case measure => simp [intOf]
    · obtain ⟨x0, x1, x2, x3⟩ := B0.out.cells4
      obtain ⟨z0, z1, z2, z3⟩ := B1.out.cells4
      have yf := B1.out.fr
      clear HT t0 t1 t2 t3 i0 i1 i2 i3
      have hz0 : w.heap.size < w1.heap.size := by omega
      have B1' := hide (B1.out.alloc (.cells #[.slice A n c, .int .i64 p', .int .i64 x', .int .i64 a'] 30))
      go_wp2_with fail
      refine (cu_.Fail_ok _ _ _ _ _ _ _ _ (by omega)).mono ?_
      rintro e w2 ⟨rfl, h2⟩
      obtain ⟨u0, u1, u2, u3⟩ := (B1'.out.below h2).cells4
      have uf := (B1'.out.below h2).fr
      replace hb := hide (bel_next (bl_alloc hb.out _) h2)
      clear h2 B1' x0 x1 x2 x3 z0 z1 z2 z3 yf
      go_wp2
      refine bodyPost_ret (v := .tuple #[.int .i64 0, cu A n c p 4 p]) (by simp [results, Tryd.results17, go_sem, u0, u1, u2, u3]) rfl ⟨rfl, ?_⟩
      repeat (first | exact hb.out | refine bl_set ?_ (by omega) _ | refine bl_drew ?_ | refine bl_alloc ?_ _)
end hd_
end Go.Proofs.YtakimiiggemfiaaDoor
