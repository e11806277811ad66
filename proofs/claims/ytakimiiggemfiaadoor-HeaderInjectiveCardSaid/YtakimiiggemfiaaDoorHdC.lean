/-
  CONTRACT OF header.decodeCounts, of the code that landed at fefc8ef. Conditions: what it states of cursor.Uint.
-/
import Derived.Test.YtakimiiggemfiaaDoorHdB
namespace Go.Proofs.YtakimiiggemfiaaDoor
open Go.ChangeShapes Go.WideShapes Go.ChangeAt Go.RowKit
set_option linter.unusedVariables false
namespace hd_
/-- the cells of a header behind i counts. -/
def hL (v : Int) (vs : Nat → Int) (i : Nat) : List Value := .int .i64 v :: (List.range 6).map (fun j => .int .u32 (if j < i then vs j else 0))
theorem hL_set (v : Int) (vs : Nat → Int) (i : Nat) (h : i < 6) : (hL v vs i).set (i + 1) (.int .u32 (vs i)) = hL v vs (i + 1) := by
  unfold hL
  rw [List.set_cons_succ]
  congr 1
  apply List.ext_getElem
  · simp
  · intro j h1 h2
    simp at h1
    rw [List.getElem_set]
    simp
    split
    · subst i; rw [if_pos (by omega)]
    · by_cases hj : j < i
      · rw [if_pos hj, if_pos (by omega)]
      · rw [if_neg hj, if_neg (by omega)]
def pL (b : Nat) : List Value := (List.range 6).map (fun j => .pointer (some ⟨b, j + 1, none⟩))
set_option maxHeartbeats 1000000 in
theorem decodeCounts (A : Option Addr) (n c b : Nat) (v : Int) (vs P E Q : Nat → Int) (w : World) (hbx : Bx w b (hL v vs 0))
    (N : ∀ i, i < 6 → ∀ w1, But b w w1 → Calls Tryd.prog 22 #[cu A n c (P i) (E i) (Q i), .int .i64 4] w1 fun e w' => e = .returned (.tuple #[.int .u64 (vs i), cu A n c (P (i + 1)) (E (i + 1)) (Q (i + 1))]) ∧ Below w1.heap.size w1 w')
    (hU : ∀ i, i < 6 → U32 (vs i)) :
    Calls Tryd.prog 18 #[.pointer (some ⟨b, 0, none⟩), cu A n c (P 0) (E 0) (Q 0)] w fun e w' => e = .returned (cu A n c (P 6) (E 6) (Q 6)) ∧ Bx w' b (hL v vs 6) ∧ But b w w' := by
  have HN := hide N
  have HU := hide hU
  have hlt := hbx.lt
  have HB := hide ((hbx.alloc (.cells #[.slice A n c, .int .i64 (P 0), .int .i64 (E 0), .int .i64 (Q 0)] 30)).alloc (.cells #[.slice none 0 0, .int .i64 0, .int .i64 0, .int .i64 0] 30))
  have B0 := hide ((Bx.new4 w (.slice A n c) (.int .i64 (P 0)) (.int .i64 (E 0)) (.int .i64 (Q 0)) 30).alloc (.cells #[.slice none 0 0, .int .i64 0, .int .i64 0, .int .i64 0] 30))
  have B1 := hide (Bx.snd4 w (.cells #[.slice A n c, .int .i64 (P 0), .int .i64 (E 0), .int .i64 (Q 0)] 30) (.slice none 0 0) (.int .i64 0) (.int .i64 0) (.int .i64 0) 30)
  have hb := hide (bl_alloc (bl_new w (.cells #[.slice A n c, .int .i64 (P 0), .int .i64 (E 0), .int .i64 (Q 0)] 30)) (.cells #[.slice none 0 0, .int .i64 0, .int .i64 0, .int .i64 0] 30))
  clear N hU hbx
  go_enter Tryd.func18, Tryd.ntmps18
  go_wp2_with fail
  refine (counts _ _).mono ?_
  rintro e w1 ⟨rfl, h1⟩
  have hz : w.heap.size + 1 < w1.heap.size := by have := h1.size; simp at this; omega
  replace HB := hide (HB.out.below h1)
  replace B0 := hide (B0.out.below h1)
  replace B1 := hide (B1.out.below h1)
  replace hb := hide (bel_next hb.out h1)
  clear h1
  unfold ptrs
  have HP := hide (show Bx (w1.alloc (.cells #[.pointer (some ⟨b, 1, none⟩), .pointer (some ⟨b, 2, none⟩), .pointer (some ⟨b, 3, none⟩), .pointer (some ⟨b, 4, none⟩), .pointer (some ⟨b, 5, none⟩), .pointer (some ⟨b, 6, none⟩)] 42)) w1.heap.size (pL b) from Bx.new w1 (pL b) 42)
  have hz2 : w1.heap.size < (w1.alloc (.cells #[.pointer (some ⟨b, 1, none⟩), .pointer (some ⟨b, 2, none⟩), .pointer (some ⟨b, 3, none⟩), .pointer (some ⟨b, 4, none⟩), .pointer (some ⟨b, 5, none⟩), .pointer (some ⟨b, 6, none⟩)] 42)).heap.size := by simp
  replace HB := hide (HB.out.alloc (.cells #[.pointer (some ⟨b, 1, none⟩), .pointer (some ⟨b, 2, none⟩), .pointer (some ⟨b, 3, none⟩), .pointer (some ⟨b, 4, none⟩), .pointer (some ⟨b, 5, none⟩), .pointer (some ⟨b, 6, none⟩)] 42))
  replace B0 := hide (B0.out.alloc (.cells #[.pointer (some ⟨b, 1, none⟩), .pointer (some ⟨b, 2, none⟩), .pointer (some ⟨b, 3, none⟩), .pointer (some ⟨b, 4, none⟩), .pointer (some ⟨b, 5, none⟩), .pointer (some ⟨b, 6, none⟩)] 42))
  replace B1 := hide (B1.out.alloc (.cells #[.pointer (some ⟨b, 1, none⟩), .pointer (some ⟨b, 2, none⟩), .pointer (some ⟨b, 3, none⟩), .pointer (some ⟨b, 4, none⟩), .pointer (some ⟨b, 5, none⟩), .pointer (some ⟨b, 6, none⟩)] 42))
  replace hb := hide (But.of (b := b) (bl_alloc hb.out (.cells #[.pointer (some ⟨b, 1, none⟩), .pointer (some ⟨b, 2, none⟩), .pointer (some ⟨b, 3, none⟩), .pointer (some ⟨b, 4, none⟩), .pointer (some ⟨b, 5, none⟩), .pointer (some ⟨b, 6, none⟩)] 42)))
  go_upto_region 2 with fail
  generalize (w1.alloc (.cells #[.pointer (some ⟨b, 1, none⟩), .pointer (some ⟨b, 2, none⟩), .pointer (some ⟨b, 3, none⟩), .pointer (some ⟨b, 4, none⟩), .pointer (some ⟨b, 5, none⟩), .pointer (some ⟨b, 6, none⟩)] 42)) = u at *
  obtain ⟨g5, hg5⟩ : ∃ g, g = w1.heap.size := ⟨_, rfl⟩
  obtain ⟨g3, hg3⟩ : ∃ g, g = w.heap.size := ⟨_, rfl⟩
  rw [← hg5] at HP hz hz2 ⊢
  rw [← hg3] at hlt hz B0 B1 ⊢
  have HG := hide hg3
  have n1 : g3 ≠ b := by omega
  have n2 : g3 ≠ g5 := by omega
  have n3 : g3 + 1 ≠ g3 := by omega
  have n4 : b ≠ g3 := by omega
  have n5 : b ≠ g5 := by omega
  have n6 : b ≠ g3 + 1 := by omega
  have n7 : g5 ≠ g3 := by omega
  clear hg5 hg3
  go_wp2
  go_loopw [10] (fun iv wr => ∃ i : Nat, i ≤ 6 ∧ iv = .int .i64 i ∧ Hid (Bx wr b (hL v vs i)) ∧ Hid (Bx wr g3 [.slice A n c, .int .i64 (P i), .int .i64 (E i), .int .i64 (Q i)]) ∧ Hid (Bx wr (g3 + 1) [.slice none 0 0, .int .i64 0, .int .i64 0, .int .i64 0]) ∧ Hid (Bx wr g5 (pL b)) ∧ Hid (But b w wr)) (fun iv _ => 6 - (intOf iv).toNat)
  case atStart => exact ⟨0, by omega, rfl, HB, B0, B1, HP, hb⟩
  case round =>
    clear HB B0 B1 HP hb
    obtain ⟨i, hi, rfl, HB, B0, B1, HP, hb⟩ := hrel
    by_cases hlt6 : i < 6
    · have hi6 : (i : Int) < 6 := by omega
      obtain ⟨x0, x1, x2, x3⟩ := B0.out.cells4
      go_wp2_with fail
      refine (HN.out i hlt6 _ hb.out).mono ?_
      rintro e w2 ⟨rfl, h1⟩
      clear x0 x1 x2 x3
      replace HB := hide (HB.out.below h1)
      replace B0 := hide (B0.out.below h1)
      replace B1 := hide (B1.out.below h1)
      replace HP := hide (HP.out.below h1)
      replace hb := hide (hb.out.next h1)
      clear h1
      obtain ⟨x0, x1, x2, x3⟩ := B0.out.cells4
      have xf := B0.out.fr
      go_upto_region 7 with fail
      clear x0 x1 x2 x3 xf
      have hw0 : w.heap.size ≤ g3 := by rw [HG.out]; exact Nat.le_refl _
      have HP' := hide (HP.out.away4 (a := .slice A n c) (b := .int .i64 (P (i + 1))) (c := .int .i64 (E (i + 1))) (d := .int .i64 (Q (i + 1))) n2)
      have HB' := hide (HB.out.away4 (a := .slice A n c) (b := .int .i64 (P (i + 1))) (c := .int .i64 (E (i + 1))) (d := .int .i64 (Q (i + 1))) n1)
      have B1' := hide (B1.out.away4 (a := .slice A n c) (b := .int .i64 (P (i + 1))) (c := .int .i64 (E (i + 1))) (d := .int .i64 (Q (i + 1))) (Ne.symm n3))
      have B0' := hide (B0.out.store4 (a := .slice A n c) (b := .int .i64 (P (i + 1))) (c := .int .i64 (E (i + 1))) (d := .int .i64 (Q (i + 1))))
      have hb' := hide ((((hb.out.setNew hw0 (o := 0) (.slice A n c)).setNew hw0 (o := 1) (.int .i64 (P (i + 1)))).setNew hw0 (o := 2) (.int .i64 (E (i + 1)))).setNew hw0 (o := 3) (.int .i64 (Q (i + 1))))
      clear HP HB B1 B0 hb
      generalize ((((w2.setCell ⟨g3, 0, none⟩ (.slice A n c)).setCell ⟨g3, 1, none⟩ (.int .i64 (P (i + 1)))).setCell ⟨g3, 2, none⟩ (.int .i64 (E (i + 1)))).setCell ⟨g3, 3, none⟩ (.int .i64 (Q (i + 1)))) = w3 at *
      have c1 : w3.cell? ⟨g5, i, none⟩ = some (.pointer (some ⟨b, i + 1, none⟩)) := HP'.out.2.1 i _ (by unfold pL; rw [List.getElem?_map, List.getElem?_range hlt6]; rfl)
      have c2 : w3.cell? ⟨b, i + 1, none⟩ = some (.int .u32 0) := HB'.out.2.1 (i + 1) _ (by unfold hL; rw [List.getElem?_cons_succ, List.getElem?_map, List.getElem?_range hlt6, Option.map_some, if_neg (by omega)])
      have c3 := HB'.out.2.2 (i + 1)
      have c4 := HB'.out.lt
      obtain ⟨u0, u1⟩ := HU.out i hlt6
      have c5 : IntKind.u32.wrap (vs i) = vs i := by rw [IntKind.wrap_u32]; omega
      go_wp2
      go_round
      case rel =>
        refine ⟨i + 1, hlt6, by go_num, ?_, hide (B0'.out.set_ne _ n4 _), hide (B1'.out.set_ne _ n6 _), hide (HP'.out.set_ne _ n5 _), hide (hb'.out.set _)⟩
        rw [← hL_set v vs i hlt6]
        exact hide (HB'.out.set _ _ (by unfold hL; simp; omega))
      case measure => simp [intOf]; omega
    · obtain rfl : i = 6 := by omega
      obtain ⟨x0, x1, x2, x3⟩ := B0.out.cells4
      obtain ⟨z0, z1, z2, z3⟩ := B1.out.cells4
      have zf := B1.out.fr
      have zl := B1.out.lt
      go_wp2
      have hw0 : w.heap.size ≤ g3 + 1 := by rw [HG.out]; omega
      refine bodyPost_ret (v := cu A n c (P 6) (E 6) (Q 6)) (by simp [results, Tryd.results18, go_sem, z0, z1, z2, z3]) rfl ⟨rfl, HB.out.away4 (Ne.symm n6), ?_⟩
      exact (((hb.out.setNew hw0 _).setNew hw0 _).setNew hw0 _).setNew hw0 _
end hd_
end Go.Proofs.YtakimiiggemfiaaDoor
