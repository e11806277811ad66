/-
  CONTRACTS OF PACKAGE zoneinforef18 (the reference of layer 18). Conditions: at most 100,000 bytes or indicators.
-/
import Derived.Test.YtbajdlgcajeldaaGreatDoorSame1
import Derived.Test.YtbajdlgcajeldaaGreatDoorBlM
import Derived.Test.YtbajdlgcajeldaaGreatDoorBase2
import Derived.Deep.RegionHeld3
import Derived.Deep.DeepCutAuto
import Derived.Deep.RegionLaw
namespace Go.Proofs.YtbajdlgcajeldaaGreatDoor
open Go.ChangeShapes Go.WideShapes Go.ChangeAt Go.RowKit
set_option linter.unusedVariables false
set_option maxRecDepth 100000
theorem elBo_ : ElT Tryz.prog 32 4 (.bool false) 1 := ⟨Tryz.underlying32, by kernel_rfl, rfl⟩
theorem elBy_ : ElT Tryz.prog 22 5 (.int .u8 0) 1 := ⟨Tryz.underlying22, by kernel_rfl, rfl⟩
theorem rx_at {w : World} {A : Option Addr} {n : Nat} {xs : List Int} (h : Rd w A n (xs.map (Value.int .u8))) {i : Nat} (hi : i < n) : ∃ ad x, A = some ad ∧ xs[i]? = some x ∧ w.cell? (ad.add i) = some (.int .u8 x) := by
  obtain ⟨ad, v, h1, h2, h3⟩ := h.at_ hi
  rw [List.getElem?_map] at h2
  cases hx : xs[i]? with
  | none => rw [hx] at h2; simp at h2
  | some x => rw [hx] at h2; simp at h2; subst h2; exact ⟨ad, x, h1, rfl, h3⟩
namespace r18_
set_option maxHeartbeats 1000000 in
theorem Same (A A' : Option Addr) (n n' c c' : Nat) (l l' : List Bool) (w : World) (hn : n ≤ 9223372036854775807) (hn' : n' ≤ 9223372036854775807) (hr : Rd w A n (bls l)) (hr' : Rd w A' n' (bls l')) :
    Calls Tryz.prog 36 #[.slice A n c, .slice A' n' c'] w fun e w' => e = .returned (.bool (decide (l = l'))) ∧ Below w.heap.size w w' := by
  have hl : l.length = n := by have := hr.len; simpa using this
  have hl' : l'.length = n' := by have := hr'.len; simpa using this
  obtain ⟨b, hb⟩ : ∃ b, b = decide (l = l') := ⟨_, rfl⟩
  rw [← hb]
  by_cases hnn : n = n'
  rotate_left
  · have : b = false := by rw [hb]; exact decide_eq_false fun h => hnn (by rw [← hl, ← hl', h])
    subst this
    have hne : ((n : Int) != n') = true := by simp; omega
    clear hb hl hl' hr hr'
    go_enter Tryz.func36, Tryz.ntmps36
    go_wp2
    go_ret
    exact ⟨rfl, bl_refl _⟩
  subst hnn
  have HB := hide hb
  have HL := hide hl
  have HL' := hide hl'
  clear hb hl hl'
  go_enter Tryz.func36, Tryz.ntmps36
  go_wp2
  go_loopw [5] (fun i wr => ∃ k : Nat, k ≤ n ∧ i = .int .i64 (k : Nat) ∧ Hid (l.take k = l'.take k) ∧ Hid (Below w.heap.size w wr)) (fun i _ => n - (intOf i).toNat)
  case atStart => exact ⟨0, by omega, rfl, hide rfl, hide (bl_refl _)⟩
  case round =>
    obtain ⟨k, hk, rfl, ht, hw⟩ := hrel
    by_cases hlt : k < n
    · obtain ⟨ad, t, e1, x1, f0⟩ := rb_at (hr.below hw.out) hlt
      obtain ⟨ad', u, e2, x2, g0⟩ := rb_at (hr'.below hw.out) hlt
      subst e1 e2
      by_cases hxy : t = u
      · have hs := hide (show l.take (k + 1) = l'.take (k + 1) by rw [List.take_add_one, List.take_add_one, ht.out, x1, x2, hxy])
        clear x1 x2
        subst hxy
        cases t
        all_goals
          go_wp2
          go_quiet (fail)
          go_wp2
          go_roundw
          case rel => exact ⟨k + 1, by omega, by go_num, hs, hide (bel_drewN hw.out _)⟩
          case measure => simp [intOf]; omega
      · have hne : b = false := by
          rw [HB.out]
          exact decide_eq_false (fun h => by rw [h, x2] at x1; injection x1 with x1; exact hxy x1.symm)
        subst hne
        clear x1 x2
        rcases (show (t = true ∧ u = false) ∨ (t = false ∧ u = true) by cases t <;> cases u <;> simp_all) with ⟨rfl, rfl⟩ | ⟨rfl, rfl⟩
        all_goals
          clear hxy
          go_wp2
          go_quiet (fail)
          go_wp2
          go_ret
          exact ⟨rfl, bel_drewN hw.out _⟩
    · obtain rfl : k = n := by omega
      have hne : b = true := by
        rw [HB.out]
        refine decide_eq_true ?_
        have := ht.out
        rwa [List.take_of_length_le (by rw [HL.out]; omega), List.take_of_length_le (by rw [HL'.out]; omega)] at this
      subst hne
      go_wp2
      go_ret
      exact ⟨rfl, hw.out⟩
set_option maxHeartbeats 2000000 in
theorem Encode (A : Option Addr) (n c : Nat) (l : List Bool) (w : World) (hn : n ≤ 100000) (hr : Rd w A n (bls l)) :
    Calls Tryz.prog 52 #[.slice A n c] w fun e w' => ∃ A' c', e = .returned (.slice A' n c') ∧ Ow w' w.heap.size 5 A' n c' ((eI l).map (Value.int .u8)) ∧ Below w.heap.size w w' := by
  have hl : l.length = n := by have := hr.len; simpa using this
  have HL := hide hl
  have HR := hide hr
  clear hl hr
  go_enter Tryz.func52, Tryz.ntmps52
  go_wp2
  go_loopw [3, 4] (fun s i wr => ∃ (k : Nat) (A1 : Option Addr) (c1 : Nat), k ≤ n ∧ i = .int .i64 (k : Nat) ∧ s = .slice A1 k c1 ∧ Hid (Ow wr w.heap.size 5 A1 k c1 ((eI (l.take k)).map (Value.int .u8))) ∧ Hid (Below w.heap.size w wr)) (fun _ i _ => n - (intOf i).toNat)
  case atStart => exact ⟨0, none, 0, by omega, rfl, rfl, hide (Ow.nil (Nat.le_refl _) _), hide (bl_refl _)⟩
  case round =>
    obtain ⟨k, A1, c1, hk, rfl, rfl, ho, hw⟩ := hrel
    by_cases hlt : k < n
    · have hkn : (k : Int) < (n : Int) := by omega
      obtain ⟨ad, x, rfl, hx, f0⟩ := rb_at (HR.out.below hw.out) hlt
      have hst := hide (eI_step hx)
      clear hx
      cases x
      · go_wp2_with (at_builtin; refine ap1 elBy_ ho.out hw.out (Nat.le_refl _) (.tmp 18) (.tmp 19) (.int .u8 0) rfl rfl rfl rfl rfl (by unfold maxLen; omega) (by omega) ?_; intro A6 c6 w6 ho6 hb6)
        go_roundw
        case rel => exact ⟨k + 1, A6, c6, by omega, by go_num, rfl, hide (by rw [hst.out, List.map_append]; exact ho6), hide hb6⟩
        case measure => simp [intOf]; omega
      · go_wp2_with (at_builtin; refine ap1 elBy_ ho.out hw.out (Nat.le_refl _) (.tmp 15) (.tmp 16) (.int .u8 1) rfl rfl rfl rfl rfl (by unfold maxLen; omega) (by omega) ?_; intro A6 c6 w6 ho6 hb6)
        go_roundw
        case rel => exact ⟨k + 1, A6, c6, by omega, by go_num, rfl, hide (by rw [hst.out, List.map_append]; exact ho6), hide hb6⟩
        case measure => simp [intOf]; omega
    · obtain rfl : k = n := by omega
      have hts : l.take k = l := List.take_of_length_le (by rw [HL.out]; exact Nat.le_refl _)
      rw [hts] at ho
      clear hts
      go_wp2
      go_ret
      exact ⟨_, _, rfl, ho.out, hw.out⟩
set_option maxHeartbeats 2000000 in
theorem Decode (A : Option Addr) (n c : Nat) (l : List Int) (w : World) (hn : n ≤ 100000) (hr : Rd w A n (l.map (Value.int .u8))) (hl0 : ∀ x ∈ l, 0 ≤ x ∧ x < 256) :
    Calls Tryz.prog 32 #[.slice A n c] w fun e w' => ((fI l = true ∧ ∃ A' c', e = .returned (.tuple #[.slice A' n c', .bool true]) ∧ Ow w' w.heap.size 4 A' n c' (bls (dI l))) ∨ (fI l = false ∧ e = .returned (.tuple #[.slice none 0 0, .bool false]))) ∧ Below w.heap.size w w' := by
  have hl : l.length = n := by have := hr.len; simpa using this
  have HL := hide hl
  have HR := hide hr
  have HB := hide hl0
  clear hl hr hl0
  go_enter Tryz.func32, Tryz.ntmps32
  go_wp2
  go_loopw [4, 5] (fun s i wr => ∃ (k : Nat) (A1 : Option Addr) (c1 : Nat), k ≤ n ∧ i = .int .i64 (k : Nat) ∧ s = .slice A1 k c1 ∧ Hid (fI (l.take k) = true) ∧ Hid (Ow wr w.heap.size 4 A1 k c1 (bls (dI (l.take k)))) ∧ Hid (Below w.heap.size w wr)) (fun _ i _ => n - (intOf i).toNat)
  case atStart => exact ⟨0, none, 0, by omega, rfl, rfl, hide rfl, hide (Ow.nil (Nat.le_refl _) _), hide (bl_refl _)⟩
  case round =>
    obtain ⟨k, A1, c1, hk, rfl, rfl, hf, ho, hw⟩ := hrel
    by_cases hlt : k < n
    · have hkn : (k : Int) < (n : Int) := by omega
      obtain ⟨ad, x, rfl, hx, f0⟩ := rx_at (HR.out.below hw.out) hlt
      obtain ⟨x0, x1⟩ := HB.out x (List.mem_of_getElem? hx)
      have hst := hide (fI_step hx)
      have hsd := hide (dI_step hx)
      by_cases hx1 : x ≤ 1
      · have d1 : decide (1 < x) = false := by simp; omega
        obtain ⟨bx, hbx⟩ : ∃ bx, decide (x = 1) = bx := ⟨_, rfl⟩
        have hbq : (x == 1) = bx := by rw [← hbx]; by_cases e : x = 1 <;> simp [e]
        rw [hbx] at hsd
        replace hx1 := hide hx1
        clear hx hbx
        go_wp2_with (at_builtin; refine ap1 elBo_ ho.out hw.out (Nat.le_refl _) (.tmp 17) (.tmp 23) (.bool bx) rfl rfl rfl rfl rfl (by unfold maxLen; omega) (by omega) ?_; intro A6 c6 w6 ho6 hb6)
        go_roundw
        case rel => exact ⟨k + 1, A6, c6, by omega, by go_num, rfl, hide (by rw [hst.out, hf.out, decide_eq_true hx1.out]; rfl), hide (by rw [hsd.out, bls, List.map_append]; exact ho6), hide hb6⟩
        case measure => simp [intOf]; omega
      · have d1 : decide (1 < x) = true := by simp; omega
        have hno := hide (show fI l = false by
          rw [← Bool.not_eq_true]
          intro h
          have := List.all_eq_true.1 h x (List.mem_of_getElem? hx)
          simp at this
          omega)
        clear hx hx1
        go_wp2
        go_ret2
        exact ⟨.inr ⟨hno.out, rfl⟩, hw.out⟩
    · obtain rfl : k = n := by omega
      have hts : l.take k = l := List.take_of_length_le (by rw [HL.out]; exact Nat.le_refl _)
      rw [hts] at ho hf
      clear hts
      go_wp2
      go_ret2
      exact ⟨.inl ⟨hf.out, _, _, rfl, ho.out⟩, hw.out⟩
end r18_
end Go.Proofs.YtbajdlgcajeldaaGreatDoor
