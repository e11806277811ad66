/-
  CONTRACTS OF PACKAGE zoneinforef16 (the reference of layer 16). Conditions: at most 100,000 bytes or types.
-/
import Derived.Test.YtgbojkbhkjameaaRef1
import Derived.Test.YtgbojkbhkjameaaBlM
import Derived.Test.YtgbojkbhkjameaaOwk
import Derived.Test.YtgbojkbhkjameaaStr
import Derived.Deep.RegionHeld3
import Derived.Deep.DeepCutAuto
import Derived.Deep.RegionLaw
namespace Go.Proofs.Ytgbojkbhkjameaa
open Go.ChangeShapes Go.WideShapes Go.ChangeAt Go.RowKit
set_option linter.unusedVariables false
set_option maxRecDepth 100000
theorem elTT : ElS Try.prog 24 38 3 8 := ⟨Try.underlying24, .agg #[.int .i32 0, .bool false, .int .u8 0], by kernel_rfl, rfl⟩
/-- the three cells of the i-th type. -/
theorem Rk.tt {w : World} {A : Option Addr} {n : Nat} {ts : List TT} (h : Rk 3 w A n (tcs ts)) {i : Nat} (hi : i < n) : ∃ ad t, A = some ad ∧ ts[i]? = some t ∧ w.cell? (ad.add (i * 3)) = some (.int .i32 t.1) ∧ w.cell? ⟨(ad.add (i * 3)).block, (ad.add (i * 3)).off + 1, none⟩ = some (.bool t.2.1) ∧ w.cell? ⟨(ad.add (i * 3)).block, (ad.add (i * 3)).off + 2, none⟩ = some (.int .u8 t.2.2) := by
  have hl : ts.length = n := by have := h.len; rw [tcs_len] at this; omega
  obtain ⟨ad, e, hc⟩ := h.2 (by omega)
  have ht : ts[i]? = some (ts[i]'(by omega)) := List.getElem?_eq_getElem (by omega)
  have g := tcs_get ht
  have h1 := hc _ _ g.2.1
  have h2 := hc _ _ g.2.2
  rw [← addr_add] at h1 h2
  exact ⟨ad, _, e, ht, hc _ _ g.1, h1, h2⟩
theorem any_step {α : Type} (p : α → Bool) {ts : List α} {k : Nat} {t : α} (h : ts[k]? = some t) : (ts.take (k + 1)).any p = ((ts.take k).any p || p t) := by
  have hl := (List.getElem?_eq_some_iff.1 h).1
  rw [List.getElem?_eq_getElem hl] at h
  injection h with h
  rw [List.take_succ_eq_append_getElem hl, List.any_append, h]
  simp
theorem any_at {α : Type} (p : α → Bool) {ts : List α} {k : Nat} {t : α} (h : ts[k]? = some t) (hp : p t = true) : ts.any p = true := List.any_eq_true.2 ⟨t, List.mem_of_getElem? h, hp⟩
namespace r16_
set_option maxHeartbeats 1000000 in
theorem Check (A : Option Addr) (n c : Nat) (ts : List TT) (m : Int) (w : World) (hn : n ≤ 100000) (hr : Rk 3 w A n (tcs ts)) (hok : ∀ t ∈ ts, ttOk t) :
    Calls Try.prog 40 #[.slice A n c, .int .i64 m] w fun e w' => e = .returned (.int .i64 (chk ts m)) ∧ Below w.heap.size w w' := by
  have hl : ts.length = n := by have := hr.len; rw [tcs_len] at this; omega
  have HL := hide hl
  have HO := hide hok
  clear hok
  obtain ⟨d, hd⟩ : ∃ d, d = chk ts m := ⟨_, rfl⟩
  rw [← hd]
  have HD := hide hd
  clear hd hl
  go_enter Try.func40, Try.ntmps40
  go_wp2
  go_loopw [5] (fun i wr => ∃ k : Nat, k ≤ n ∧ i = .int .i64 (k : Nat) ∧ Hid ((ts.take k).any (fun t => decide (t.1 = -2147483648)) = false) ∧ Hid (Below w.heap.size w wr)) (fun i _ => n - (intOf i).toNat)
  case atStart => exact ⟨0, by omega, rfl, hide rfl, hide (bl_refl _)⟩
  case round =>
    obtain ⟨k, hk, rfl, ha, hw⟩ := hrel
    by_cases hlt : k < n
    · obtain ⟨ad, t, rfl, ht, h0, h1, h2⟩ := (hr.below hw.out).tt hlt
      have hst := any_step (fun t : TT => decide (t.1 = -2147483648)) ht
      by_cases hm : t.1 = -2147483648
      · have hm' : (t.1 == -2147483648) = true := by simpa using hm
        have hne : d = 9 := by rw [HD.out]; unfold chk; rw [if_pos (any_at _ ht (decide_eq_true hm))]
        subst hne
        clear hst hm ht
        go_wp2
        go_ret
        exact ⟨rfl, hw.out⟩
      · have hm' : (t.1 == -2147483648) = false := by simpa using hm
        have hs := hide (show (ts.take (k + 1)).any (fun t => decide (t.1 = -2147483648)) = false by rw [hst, ha.out]; simpa using hm)
        clear hst hm ht
        go_wp2
        go_roundw
        case rel => exact ⟨k + 1, by omega, by go_num, hs, hw⟩
        case measure => simp [intOf]; omega
    · obtain rfl : k = n := by omega
      have hA := hide (show ts.any (fun t => decide (t.1 = -2147483648)) = false by have := ha.out; rwa [List.take_of_length_le (by rw [HL.out]; omega)] at this)
      clear ha
      go_wp2
      go_loopw [6] (fun i w2 => ∃ q : Nat, q ≤ k ∧ i = .int .i64 (q : Nat) ∧ Hid ((ts.take q).any (fun t => decide (m ≤ t.2.2)) = false) ∧ Hid (Below w.heap.size w w2)) (fun i _ => k - (intOf i).toNat)
      case atStart => exact ⟨0, by omega, rfl, hide rfl, hw⟩
      case round =>
        clear hw
        obtain ⟨q, hq, rfl, ha, hw⟩ := hrel
        by_cases hlt : q < k
        · obtain ⟨ad, t, rfl, ht, h0, h1, h2⟩ := (hr.below hw.out).tt hlt
          have hst := any_step (fun t : TT => decide (m ≤ t.2.2)) ht
          obtain ⟨_, _, z0, z1⟩ := HO.out t (List.mem_of_getElem? ht)
          have zw : wrap64 t.2.2 = t.2.2 := by unfold wrap64; omega
          by_cases hm : m ≤ t.2.2
          · have hne : d = 8 := by rw [HD.out]; unfold chk; rw [if_neg (by rw [hA.out]; decide), if_pos (any_at _ ht (decide_eq_true hm))]
            subst hne
            clear hst ht
            go_wp2
            go_ret
            exact ⟨rfl, hw.out⟩
          · have hs := hide (show (ts.take (q + 1)).any (fun t => decide (m ≤ t.2.2)) = false by rw [hst, ha.out]; simpa using hm)
            clear hst ht
            go_wp2
            go_roundw
            case rel => exact ⟨q + 1, by omega, by go_num, hs, hw⟩
            case measure => simp [intOf]; omega
        · obtain rfl : q = k := by omega
          have hB := (show ts.any (fun t => decide (m ≤ t.2.2)) = false by have := ha.out; rwa [List.take_of_length_le (by rw [HL.out]; omega)] at this)
          have hne : d = 0 := by rw [HD.out]; unfold chk; rw [if_neg (by rw [hA.out]; decide), if_neg (by rw [hB]; decide)]
          subst hne
          clear hB ha
          go_wp2
          go_ret
          exact ⟨rfl, hw.out⟩
theorem tt_ne (t u : TT) (w : World) : (binOp .neq 38 (.agg #[.int .i32 t.1, .bool t.2.1, .int .u8 t.2.2]) (.agg #[.int .i32 u.1, .bool u.2.1, .int .u8 u.2.2])).run Try.prog w = .ok (.bool (!decide (t = u))) w := by
  obtain ⟨a, b, c⟩ := t
  obtain ⟨a', b', c'⟩ := u
  simp only [Prod.mk.injEq]
  by_cases h1 : a = a' <;> by_cases h2 : b = b' <;> by_cases h3 : c = c' <;> simp [go_sem, h1, h2, h3]
set_option maxHeartbeats 1000000 in
theorem Same (A A' : Option Addr) (n n' c c' : Nat) (l l' : List TT) (w : World) (hn : n ≤ 9223372036854775807) (hn' : n' ≤ 9223372036854775807) (hr : Rk 3 w A n (tcs l)) (hr' : Rk 3 w A' n' (tcs l')) :
    Calls Try.prog 27 #[.slice A n c, .slice A' n' c'] w fun e w' => e = .returned (.bool (decide (l = l'))) ∧ Below w.heap.size w w' := by
  have hl : l.length = n := by have := hr.len; rw [tcs_len] at this; omega
  have hl' : l'.length = n' := by have := hr'.len; rw [tcs_len] at this; omega
  obtain ⟨b, hb⟩ : ∃ b, b = decide (l = l') := ⟨_, rfl⟩
  rw [← hb]
  by_cases hnn : n = n'
  rotate_left
  · have : b = false := by rw [hb]; exact decide_eq_false fun h => hnn (by rw [← hl, ← hl', h])
    subst this
    have hne : ((n : Int) != n') = true := by simp; omega
    clear hb hl hl' hr hr'
    go_enter Try.func27, Try.ntmps27
    go_wp2
    go_ret
    exact ⟨rfl, bl_refl _⟩
  subst hnn
  have HB := hide hb
  have HL := hide hl
  have HL' := hide hl'
  clear hb hl hl'
  go_enter Try.func27, Try.ntmps27
  go_wp2
  go_loopw [5] (fun i wr => ∃ k : Nat, k ≤ n ∧ i = .int .i64 (k : Nat) ∧ Hid (l.take k = l'.take k) ∧ Hid (Below w.heap.size w wr)) (fun i _ => n - (intOf i).toNat)
  case atStart => exact ⟨0, by omega, rfl, hide rfl, hide (bl_refl _)⟩
  case round =>
    obtain ⟨k, hk, rfl, ht, hw⟩ := hrel
    by_cases hlt : k < n
    · obtain ⟨ad, t, e1, x1, f0, f1, f2⟩ := (hr.below hw.out).tt hlt
      obtain ⟨ad', u, e2, x2, g0, g1, g2⟩ := (hr'.below hw.out).tt hlt
      subst e1 e2
      have hq := fun w => tt_ne t u w
      by_cases hxy : t = u
      · have hs := hide (show l.take (k + 1) = l'.take (k + 1) by rw [List.take_add_one, List.take_add_one, ht.out, x1, x2, hxy])
        rw [decide_eq_true hxy] at hq
        clear x1 x2 hxy
        go_wp2
        go_quiet (fail)
        go_wp2
        go_roundw
        case rel => exact ⟨k + 1, by omega, by go_num, hs, hide (bel_drewN hw.out _)⟩
        case measure => simp [intOf]; omega
      · have hne : b = false := by
          rw [HB.out]
          exact decide_eq_false (fun h => by rw [h, x2] at x1; injection x1 with x1; exact hxy x1.symm)
        subst hne
        rw [decide_eq_false hxy] at hq
        clear x1 x2 hxy
        go_wp2
        go_quiet (fail)
        go_wp2
        go_ret
        exact ⟨rfl, bel_drewN hw.out _⟩
    · obtain rfl : k = n := by omega
      have hne : b = true := by
        rw [HB.out]
        refine decide_eq_true ?_
        have := ht.out
        rwa [List.take_of_length_le (by rw [HL.out]; omega), List.take_of_length_le (by rw [HL'.out]; omega)] at this
      subst hne
      go_wp2
      go_ret
      exact ⟨rfl, hw.out⟩
end r16_
end Go.Proofs.Ytgbojkbhkjameaa
