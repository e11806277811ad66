/-
  CONTRACTS of zoneinforef12 (the reference of layer 12): Allowed, Bad, Valid. Conditions: a slice of bytes that can be read.
-/
import Derived.Test.YtgbojkbhkjameaaDsMath
import Derived.Test.YtgbojkbhkjameaaRows
namespace Go.Proofs.Ytgbojkbhkjameaa
open Go.ChangeShapes Go.WideShapes Go.ChangeAt Go.RowKit
set_option linter.unusedVariables false
abbrev bys (xs : List Int) : List Value := xs.map (Value.int .u8)
theorem rd_at {w : World} {A : Option Addr} {n : Nat} {xs : List Int} (h : Rd w A n (bys xs)) {i : Nat} (hi : i < n) : ∃ ad x, A = some ad ∧ xs[i]? = some x ∧ w.cell? (ad.add i) = some (.int .u8 x) := by
  obtain ⟨ad, v, h1, h2, h3⟩ := h.at_ hi
  rw [List.getElem?_map] at h2
  cases hx : xs[i]? with
  | none => rw [hx] at h2; simp at h2
  | some x => rw [hx] at h2; simp at h2; subst h2; exact ⟨ad, x, h1, rfl, h3⟩
namespace r12_
theorem Allowed (x : Int) (w : World) (h0 : 0 ≤ x) (h1 : x < 256) : Calls Try.prog 52 #[.int .u8 x] w fun e w' => e = .returned (.bool (dsA x)) ∧ w = w' := by
  rcases (show x = 43 ∨ x = 45 ∨ ((x == 43) = false ∧ (x == 45) = false ∧ x ≠ 43 ∧ x ≠ 45) by by_cases a : x = 43 <;> by_cases b : x = 45 <;> simp [a, b]) with rfl | rfl | ⟨a, b, c, d⟩
  · go_enter Try.func52, Try.ntmps52
    go_wp2
    go_ret
    exact ⟨rfl, rfl⟩
  · go_enter Try.func52, Try.ntmps52
    go_wp2
    go_ret
    exact ⟨rfl, rfl⟩
  · go_enter Try.func52, Try.ntmps52
    go_wp2
    all_goals go_ret
    all_goals
      refine ⟨retb ?_, rfl⟩
      unfold dsA
      rw [Bool.eq_iff_iff]
      simp [c, d]
      try omega
set_option maxHeartbeats 4000000 in
theorem Bad (A : Option Addr) (n c : Nat) (xs : List Int) (w : World) (hr : Rd w A n (bys xs)) (hb : IsB xs) (hn : n ≤ 9223372036854775807) :
    Calls Try.prog 51 #[.slice A n c] w fun e w' => e = .returned (.int .i64 (badL xs)) ∧ w = w' := by
  have hlen : xs.length = n := by have := hr.len; simpa using this
  obtain ⟨q, h1, h2, h3, h4⟩ := twi_facts dsG xs
  have hbad := hide (show badL xs = if q < n then (q : Int) else if xs.getLast? = some 0 then -1 else n by unfold badL; rw [h1, hlen])
  generalize badL xs = z at *
  have Al := hide (fun x w h0 h1 => Allowed x w h0 h1)
  have hR := hide hr
  have h3' := hide h3
  have h4' := hide h4
  have hb' := hide hb
  have hl' := hide hlen
  rw [hlen] at h2
  clear h1 h3 h4 hr hb hlen
  go_enter Try.func51, Try.ntmps51
  go_wp2
  go_loop [3] (fun iv => ∃ i : Nat, iv = .int .i64 i ∧ i ≤ q) (fun iv => n + 1 - (intOf iv).toNat)
  case atStart => exact ⟨0, rfl, Nat.zero_le _⟩
  case round =>
    obtain ⟨i, rfl, hi⟩ := hrel
    by_cases hlt : i < n
    · have dl : decide ((i : Int) < (n : Int)) = true := by simpa using hlt
      have dl2 : (i : Int) < (n : Int) := by omega
      obtain ⟨ad, x, rfl, hx, hc⟩ := rd_at hR.out hlt
      obtain ⟨x0, x1⟩ := hb'.out x (List.mem_of_getElem? hx)
      have Ax := hide (fun w => Al.out x w x0 x1)
      by_cases hiq : i < q
      · have hg := h3'.out i x hiq hx
        unfold dsG at hg
        rcases (show x = 0 ∨ ((x == 0) = false ∧ dsA x = true) by by_cases e : x = 0 <;> simp_all) with rfl | ⟨e, hA⟩
        · clear hx hg
          go_wp2_with fail
          go_round
          case rel => exact ⟨i + 1, by go_num, by omega⟩
          case measure => simp [intOf]; omega
        · rw [hA] at Ax
          have e' : (x != 0) = true := by simpa using e
          clear hx hg hA
          go_wp2_with fail
          refine (Ax.out _).mono ?_
          rintro e w' ⟨rfl, rfl⟩
          go_wp2_with fail
          go_round
          case rel => exact ⟨i + 1, by go_num, by omega⟩
          case measure => simp [intOf]; omega
      · obtain rfl : i = q := by omega
        have hg := h4'.out x hx
        unfold dsG at hg
        obtain ⟨e, hA⟩ := (show (x == 0) = false ∧ dsA x = false by simpa using hg)
        rw [hA] at Ax
        have e' : (x != 0) = true := by simpa using e
        clear hx hg hA
        go_wp2_with fail
        refine (Ax.out _).mono ?_
        rintro e w' ⟨rfl, rfl⟩
        go_wp2_with fail
        go_ret
        exact ⟨reti (by rw [hbad.out, if_pos hlt]), rfl⟩
    · obtain rfl : i = n := by omega
      obtain rfl : i = q := by omega
      have dl : decide ((i : Int) < (i : Int)) = false := by simp
      by_cases h0 : 0 < i
      · have d0 : decide (0 < (i : Int)) = true := by simpa using h0
        obtain ⟨ad, x, rfl, hx, hc⟩ := rd_at hR.out (show i - 1 < i by omega)
        have hla : xs.getLast? = some x := by rw [List.getLast?_eq_getElem?, hl'.out, hx]
        have hla' := hide hla
        have ei : IntKind.i64.wrap ((i : Int) - 1) = ((i - 1 : Nat) : Int) := by rw [IntKind.wrap_i64]; omega
        have ej : ((i - 1 : Nat) : Int) < (i : Int) := by omega
        by_cases hz : x = 0
        · subst hz
          clear hx hla
          go_wp2_with fail
          go_ret
          exact ⟨reti (by rw [hbad.out, if_neg (by omega), if_pos hla'.out]), rfl⟩
        · have e : (x == 0) = false := by simpa using hz
          clear hx hla
          go_wp2_with fail
          go_ret
          exact ⟨reti (by rw [hbad.out, if_neg (by omega), if_neg (by rw [hla'.out]; simpa using hz)]), rfl⟩
      · obtain rfl : i = 0 := by omega
        have hl2 : xs = [] := List.eq_nil_of_length_eq_zero hl'.out
        subst hl2
        go_wp2_with fail
        go_ret
        exact ⟨reti (by rw [hbad.out, if_neg (by omega), if_neg (by simp)]; rfl), rfl⟩
theorem Valid (A : Option Addr) (n c : Nat) (xs : List Int) (w : World) (hr : Rd w A n (bys xs)) (hb : IsB xs) (hn : n ≤ 9223372036854775807) :
    Calls Try.prog 41 #[.slice A n c] w fun e w' => e = .returned (.bool (decide (badL xs = -1))) ∧ w = w' := by
  have B := hide (fun w hr => Bad A n c xs w hr hb hn)
  have hr' := hide hr
  clear hr
  by_cases h : badL xs = -1
  · rw [h] at B
    go_enter Try.func41, Try.ntmps41
    go_wp2_with (go_at_call 51; refine (B.out _ hr'.out).mono ?_; rintro e w' ⟨rfl, rfl⟩)
    go_ret
    exact ⟨by simp [h], rfl⟩
  · have e : (badL xs == -1) = false := by simpa using h
    have hd : decide (badL xs = -1) = false := by simpa using h
    rw [hd]
    generalize badL xs = z at *
    clear h hd
    go_enter Try.func41, Try.ntmps41
    go_wp2_with (go_at_call 51; refine (B.out _ hr'.out).mono ?_; rintro e w' ⟨rfl, rfl⟩)
    go_ret
    exact ⟨rfl, rfl⟩
end r12_
end Go.Proofs.Ytgbojkbhkjameaa
