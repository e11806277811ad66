/-
  CONTRACTS OF PACKAGE zoneinforef15 (the reference of layer 15) for time sizes 4 and 8; zoneinforef14.Size. Conditions: at most 1,000,000 bytes or times.
-/
import Derived.Test.YtgbojkbhkjameaaRef1
import Derived.Test.YtgbojkbhkjameaaBlM
import Derived.Test.YtgbojkbhkjameaaBase2
namespace Go.Proofs.Ytgbojkbhkjameaa
open Go.ChangeShapes Go.WideShapes Go.ChangeAt Go.RowKit
set_option linter.unusedVariables false
set_option maxRecDepth 100000
theorem elI64 : ElT Try.prog 22 2 (.int .i64 0) 8 := ⟨Try.underlying22, by kernel_rfl, rfl⟩
namespace r14_
end r14_
namespace r15_
theorem Same (A A' : Option Addr) (n n' c c' : Nat) (l l' : List Int) (w : World) (hn : n ≤ 9223372036854775807) (hn' : n' ≤ 9223372036854775807) (hr : Rd w A n (l.map (Value.int .i64))) (hr' : Rd w A' n' (l'.map (Value.int .i64))) :
    Calls Try.prog 20 #[.slice A n c, .slice A' n' c'] w fun e w' => e = .returned (.bool (decide (l = l'))) ∧ Below w.heap.size w w' := by
  have hl : l.length = n := by have := hr.len; simpa using this
  have hl' : l'.length = n' := by have := hr'.len; simpa using this
  obtain ⟨b, hb⟩ : ∃ b, b = decide (l = l') := ⟨_, rfl⟩
  rw [← hb]
  by_cases hnn : n = n'
  rotate_left
  · have : b = false := by rw [hb]; exact decide_eq_false fun h => hnn (by rw [← hl, ← hl', h])
    subst this
    have hne : ((n : Int) != n') = true := by simp; omega
    clear hb hl hl' hr hr'
    go_enter Try.func20, Try.ntmps20
    go_wp2
    go_ret
    exact ⟨rfl, bl_refl _⟩
  subst hnn
  have HB := hide hb
  have HL := hide hl
  have HL' := hide hl'
  clear hb hl hl'
  go_enter Try.func20, Try.ntmps20
  go_wp2
  go_loopw [5] (fun i wr => ∃ k : Nat, k ≤ n ∧ i = .int .i64 (k : Nat) ∧ Hid (l.take k = l'.take k) ∧ Below w.heap.size w wr) (fun i _ => n - (intOf i).toNat)
  case atStart => exact ⟨0, by omega, rfl, hide rfl, bl_refl _⟩
  case round =>
    obtain ⟨k, hk, rfl, ht, hw⟩ := hrel
    by_cases hlt : k < n
    · obtain ⟨ad, e1, hc⟩ := (hr.below hw).int hlt
      obtain ⟨ad', e2, hc'⟩ := (hr'.below hw).int hlt
      subst e1 e2
      have x1 : l[k]? = some (l[k]?.getD 0) := by rw [List.getElem?_eq_getElem (by rw [HL.out]; exact hlt)]; rfl
      have x2 : l'[k]? = some (l'[k]?.getD 0) := by rw [List.getElem?_eq_getElem (by rw [HL'.out]; exact hlt)]; rfl
      generalize l[k]?.getD 0 = x at *
      generalize l'[k]?.getD 0 = y at *
      by_cases hxy : x = y
      · subst hxy
        have hs := hide (show l.take (k + 1) = l'.take (k + 1) by rw [List.take_add_one, List.take_add_one, ht.out, x1, x2])
        clear x1 x2
        go_wp2
        go_quiet (fail)
        go_wp2
        go_roundw
        case rel => exact ⟨k + 1, by omega, by go_num, hs, bel_drewN hw _⟩
        case measure => simp [intOf]; omega
      · have hn : (x != y) = true := by simpa using hxy
        have hne : b = false := by
          rw [HB.out]
          exact decide_eq_false (fun h => by rw [h, x2] at x1; injection x1 with x1; exact hxy x1.symm)
        subst hne
        clear x1 x2
        go_wp2
        go_quiet (fail)
        go_wp2
        go_ret
        exact ⟨rfl, bel_drewN hw _⟩
    · obtain rfl : k = n := by omega
      have hne : b = true := by
        rw [HB.out]
        refine decide_eq_true ?_
        have := ht.out
        rwa [List.take_of_length_le (by rw [HL.out]; omega), List.take_of_length_le (by rw [HL'.out]; omega)] at this
      subst hne
      go_wp2
      go_ret
      exact ⟨rfl, hw⟩
theorem Descent (A : Option Addr) (n c : Nat) (l : List Int) (w : World) (hn : n ≤ 1000000) (hr : Rd w A n (l.map (Value.int .i64))) :
    Calls Try.prog 39 #[.slice A n c] w fun e w' => e = .returned (.int .i64 (desc l)) ∧ Below w.heap.size w w' := by
  have hl : l.length = n := by have := hr.len; simpa using this
  obtain ⟨d, hd⟩ : ∃ d, d = desc l := ⟨_, rfl⟩
  rw [← hd]
  have HD := hide hd
  have HL := hide hl
  clear hd hl
  go_enter Try.func39, Try.ntmps39
  go_wp2
  go_loopw [3] (fun i wr => ∃ k j : Nat, k ≤ n ∧ i = .int .i64 (j : Int) ∧ j = k + 1 ∧ Hid (∀ q, q < k → l[q]?.getD 0 < l[q + 1]?.getD 0) ∧ Below w.heap.size w wr) (fun i _ => n + 1 - (intOf i).toNat)
  case atStart => exact ⟨0, 1, by omega, rfl, rfl, hide (fun q hq => by omega), bl_refl _⟩
  case round =>
    obtain ⟨k, j, hk, rfl, hj, ha, hw⟩ := hrel
    by_cases hlt : j < n
    · obtain ⟨ad, e1, hc⟩ := (hr.below hw).int (i := k) (by omega)
      obtain ⟨ad', e2, hc'⟩ := (hr.below hw).int hlt
      subst e1
      cases e2
      have i1 : IntKind.i64.wrap ((j : Int) - 1) = (k : Int) := by rw [IntKind.wrap_i64]; omega
      obtain ⟨x, hx⟩ : ∃ x, x = l[k]?.getD 0 := ⟨_, rfl⟩
      obtain ⟨y, hy⟩ : ∃ y, y = l[j]?.getD 0 := ⟨_, rfl⟩
      rw [← hx] at hc
      rw [← hy] at hc'
      have k0 : k < n := by omega
      by_cases hxy : y ≤ x
      · have hne : d = (j : Int) := by rw [HD.out, hj]; exact desc_at (by rw [HL.out, ← hj]; exact hlt) (by rw [← hx, ← hj, ← hy]; exact hxy) ha.out
        subst hne
        clear hx hy hj
        go_wp2
        go_quiet (fail)
        go_wp2
        go_ret
        exact ⟨rfl, bel_drewN hw _⟩
      · have hs := hide (show ∀ q, q < j → l[q]?.getD 0 < l[q + 1]?.getD 0 by
          intro q hq
          rcases Nat.lt_or_ge q k with h | h
          · exact ha.out q h
          · obtain rfl : q = k := by omega
            rw [← hx, ← hj, ← hy]; omega)
        clear hx hy
        replace hj := hide hj
        go_wp2
        go_quiet (fail)
        go_wp2
        go_roundw
        case rel => exact ⟨j, j + 1, by omega, by go_num, rfl, hs, bel_drewN hw _⟩
        case measure => simp [intOf]; have := hj.out; omega
    · have hne : d = -1 := by rw [HD.out]; exact desc_asc fun q hq => ha.out q (by rw [HL.out] at hq; omega)
      subst hne
      go_wp2
      go_ret
      exact ⟨rfl, hw⟩
theorem Fit (A : Option Addr) (n c : Nat) (l : List Int) (k : Nat) (w : World) (hk : k = 4 ∨ k = 8) (hn : n ≤ 9223372036854775807) (hr : Rd w A n (l.map (Value.int .i64))) (hl64 : ∀ v ∈ l, -9223372036854775808 ≤ v ∧ v < 9223372036854775808) :
    Calls Try.prog 37 #[.slice A n c, .int .i64 k] w fun e w' => e = .returned (.bool (fT k l)) ∧ Below w.heap.size w w' := by
  have hl : l.length = n := by have := hr.len; simpa using this
  obtain ⟨d, hd⟩ : ∃ d, d = fT k l := ⟨_, rfl⟩
  rw [← hd]
  have HD := hide hd
  have HL := hide hl
  have H64 := hide hl64
  have F := hide (fun (v : Int) (h : v ∈ l) (w : World) => r1_.Fits v k w (by omega) (hl64 v h).1 (hl64 v h).2)
  clear hd hl hl64 hk
  go_enter Try.func37, Try.ntmps37
  go_wp2
  go_loopw [5] (fun i wr => ∃ q : Nat, q ≤ n ∧ i = .int .i64 (q : Nat) ∧ Hid ((l.take q).all (fun v => fitsB k v) = true) ∧ Below w.heap.size w wr) (fun i _ => n - (intOf i).toNat)
  case atStart => exact ⟨0, by omega, rfl, hide rfl, bl_refl _⟩
  case round =>
    obtain ⟨q, hq, rfl, ha, hw⟩ := hrel
    by_cases hlt : q < n
    · obtain ⟨ad, e1, hc⟩ := (hr.below hw).int hlt
      subst e1
      have hm : l[q]?.getD 0 ∈ l := by rw [List.getElem?_eq_getElem (by rw [HL.out]; exact hlt)]; exact List.getElem_mem _
      have hst : (l.take (q + 1)).all (fun v => fitsB k v) = ((l.take q).all (fun v => fitsB k v) && fitsB k (l[q]?.getD 0)) := by
        rw [List.take_succ_eq_append_getElem (by rw [HL.out]; exact hlt), List.all_append, List.getElem?_eq_getElem (by rw [HL.out]; exact hlt)]
        simp
      have F1 := hide (F.out _ hm)
      generalize l[q]?.getD 0 = x at *
      rcases hf : fitsB k x with _ | _
      · rw [hf] at F1
        have hne : d = false := by
          rw [HD.out]
          unfold fT
          rw [← Bool.not_eq_true, List.all_eq_true]
          intro h
          have := h x hm
          rw [hf] at this
          cases this
        subst hne
        clear hst hm
        go_wp2_with fail
        refine (F1.out _).mono ?_
        rintro e w' ⟨rfl, rfl⟩
        go_wp2
        go_ret
        exact ⟨rfl, hw⟩
      · rw [hf] at F1
        rw [ha.out, hf] at hst
        have hs := hide (show (l.take (q + 1)).all (fun v => fitsB k v) = true from hst)
        clear hst hm
        go_wp2_with fail
        refine (F1.out _).mono ?_
        rintro e w' ⟨rfl, rfl⟩
        go_wp2
        go_roundw
        case rel => exact ⟨q + 1, by omega, by go_num, hs, hw⟩
        case measure => simp [intOf]; omega
    · obtain rfl : q = n := by omega
      have hne : d = true := by
        rw [HD.out]
        have := ha.out
        rwa [List.take_of_length_le (by rw [HL.out]; omega)] at this
      subst hne
      go_wp2
      go_ret
      exact ⟨rfl, hw⟩
theorem DescentK (A : Option Addr) (n c : Nat) (l : List Int) (w : World) (hn : n ≤ 1000000) (hA : A = none → n = 0 ∧ c = 0) (hr : Rd w A n (l.map (Value.int .i64))) :
    Calls Try.prog 39 #[.slice A n c] w fun e w' => e = .returned (.int .i64 (desc l)) ∧ Below w.heap.size w w' := by
  exact Descent A n c l w hn hr
theorem FitK (A : Option Addr) (n c : Nat) (l : List Int) (k : Nat) (K : Int) (w : World) (hK : K = (k : Int)) (hk : k = 4 ∨ k = 8) (hn : n ≤ 9223372036854775807) (hA : A = none → n = 0 ∧ c = 0) (hr : Rd w A n (l.map (Value.int .i64))) (hl64 : ∀ v ∈ l, -9223372036854775808 ≤ v ∧ v < 9223372036854775808) :
    Calls Try.prog 37 #[.slice A n c, .int .i64 K] w fun e w' => e = .returned (.bool (fT k l)) ∧ Below w.heap.size w w' := by
  subst hK
  exact Fit A n c l k w hk (by omega) hr hl64
end r15_
end Go.Proofs.Ytgbojkbhkjameaa
