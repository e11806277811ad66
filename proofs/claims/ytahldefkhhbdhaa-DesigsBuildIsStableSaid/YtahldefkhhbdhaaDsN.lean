/-
  CONTRACTS OF PACKAGE desigs: isAllowed, Bad, Valid, Name. Conditions: a slice of at most 1,000,000 bytes that can be read, its length at most its capacity; of Name: a valid table.
-/
import Derived.Test.YtahldefkhhbdhaaDsC
namespace Go.Proofs.Ytahldefkhhbdhaa
open Go.ChangeShapes Go.WideShapes Go.ChangeAt Go.RowKit
set_option linter.unusedVariables false
namespace ds_
theorem isAllowed (x : Int) (w : World) (h0 : 0 ≤ x) (h1 : x < 256) : Calls Try.prog 20 #[.int .u8 x] w fun e w' => e = .returned (.bool (dsG x)) ∧ w = w' := by
  rcases (show x = 0 ∨ x = 43 ∨ x = 45 ∨ ((x == 0) = false ∧ (x == 43) = false ∧ (x == 45) = false ∧ x ≠ 0 ∧ x ≠ 43 ∧ x ≠ 45) by by_cases a : x = 43 <;> by_cases b : x = 45 <;> by_cases c : x = 0 <;> simp [a, b, c]) with rfl | rfl | rfl | ⟨a, b, c, d, f, g⟩
  · go_enter Try.func20, Try.ntmps20
    go_wp2
    go_ret
    exact ⟨rfl, rfl⟩
  · go_enter Try.func20, Try.ntmps20
    go_wp2
    go_ret
    exact ⟨rfl, rfl⟩
  · go_enter Try.func20, Try.ntmps20
    go_wp2
    go_ret
    exact ⟨rfl, rfl⟩
  · go_enter Try.func20, Try.ntmps20
    go_wp2
    all_goals go_ret
    all_goals
      refine ⟨retb ?_, rfl⟩
      unfold dsG dsA
      rw [Bool.eq_iff_iff]
      simp_all
      try omega
set_option maxHeartbeats 4000000 in
theorem Bad (A : Option Addr) (n c : Nat) (xs : List Int) (w : World) (hr : Rd w A n (bys xs)) (hb : IsB xs) (hn : n ≤ 1000000) (hnc : n ≤ c) (hc : c ≤ 9223372036854775807) :
    Calls Try.prog 11 #[.slice A n c] w fun e w' => e = .returned (.int .i64 (badL xs)) ∧ Below w.heap.size w w' := by
  have hlen : xs.length = n := by have := hr.len; simpa using this
  obtain ⟨q, h1, h2, h3, h4⟩ := twi_facts dsG xs
  have hbad := hide (show badL xs = if q < n then (q : Int) else if xs.getLast? = some 0 then -1 else n by unfold badL; rw [h1, hlen])
  generalize badL xs = z at *
  have Al := hide (fun x w h0 h1 => isAllowed x w h0 h1)
  have HS := hide (fun B w (h : Rd w A n (bys xs)) hy => by_.HasSuffix0 A B n c 1 xs w h hb hn hnc hc hy)
  have hR := hide hr
  have h3' := hide h3
  have h4' := hide h4
  have hb' := hide hb
  have hl' := hide hlen
  rw [hlen] at h2
  clear h1 h3 h4 hr hb hlen
  go_enter Try.func11, Try.ntmps11
  go_wp2
  go_loop [7] (fun iv => ∃ i : Nat, iv = .int .i64 i ∧ i ≤ q) (fun iv => n + 1 - (intOf iv).toNat)
  case atStart => exact ⟨0, rfl, Nat.zero_le _⟩
  case round =>
    obtain ⟨i, rfl, hi⟩ := hrel
    by_cases hlt : i < n
    · have dl : decide ((i : Int) < (n : Int)) = true := by simpa using hlt
      have dl2 : (i : Int) < (n : Int) := by omega
      obtain ⟨ad, x, rfl, hx, hcl⟩ := rd_at hR.out hlt
      obtain ⟨x0, x1⟩ := hb'.out x (List.mem_of_getElem? hx)
      have Ax := hide (fun w => Al.out x w x0 x1)
      by_cases hiq : i < q
      · have hg := h3'.out i x hiq hx
        rw [hg] at Ax
        clear hx hg
        go_wp2_with fail
        refine (Ax.out _).mono ?_
        rintro e w' ⟨rfl, rfl⟩
        go_wp2_with fail
        go_round
        case rel => exact ⟨i + 1, by go_num, by omega⟩
        case measure => simp [intOf]; omega
      · obtain rfl : i = q := by omega
        have hg := h4'.out x hx
        rw [hg] at Ax
        clear hx hg
        go_wp2_with fail
        refine (Ax.out _).mono ?_
        rintro e w' ⟨rfl, rfl⟩
        go_wp2_with fail
        go_ret
        exact ⟨reti (by rw [hbad.out, if_pos hlt]), bl_refl _⟩
    · obtain rfl : i = n := by omega
      obtain rfl : i = q := by omega
      have dl : decide ((i : Int) < (i : Int)) = false := by simp
      by_cases hla : xs.getLast? = some 0
      · rw [decide_eq_true hla] at HS
        replace hla := hide hla
        go_wp2_with fail
        refine (HS.out _ _ (hR.out.alloc _) (Ow.lit _ _ [.int .u8 0] (by simp [maxLen])).rd).mono ?_
        rintro e w' ⟨rfl, rfl⟩
        go_wp2_with fail
        go_ret
        exact ⟨reti (by rw [hbad.out, if_neg (by omega), if_pos hla.out]), bl_new _ _⟩
      · rw [decide_eq_false hla] at HS
        replace hla := hide hla
        go_wp2_with fail
        refine (HS.out _ _ (hR.out.alloc _) (Ow.lit _ _ [.int .u8 0] (by simp [maxLen])).rd).mono ?_
        rintro e w' ⟨rfl, rfl⟩
        go_wp2_with fail
        go_ret
        exact ⟨reti (by rw [hbad.out, if_neg (by omega), if_neg hla.out]), bl_new _ _⟩
theorem Valid (A : Option Addr) (n c : Nat) (xs : List Int) (w : World) (hr : Rd w A n (bys xs)) (hb : IsB xs) (hn : n ≤ 1000000) (hnc : n ≤ c) (hc : c ≤ 9223372036854775807) :
    Calls Try.prog 9 #[.slice A n c] w fun e w' => e = .returned (.bool (decide (badL xs = -1))) ∧ Below w.heap.size w w' := by
  have B := hide (Bad A n c xs w hr hb hn hnc hc)
  have hd : decide (badL xs = -1) = decide (badL xs < 0) := by
    have : -1 ≤ badL xs := by unfold badL; split <;> (try split) <;> omega
    rw [decide_eq_decide]
    omega
  rw [hd]
  generalize badL xs = z at *
  obtain ⟨p, hp⟩ : ∃ p, decide (z < 0) = p := ⟨_, rfl⟩
  rw [hp]
  clear hr hb hd
  go_enter Try.func9, Try.ntmps9
  go_wp2_with fail
  refine B.out.mono ?_
  rintro e w1 ⟨rfl, h1⟩
  replace h1 := hide h1
  go_wp2_with fail
  go_ret
  exact ⟨retb rfl, h1.out⟩
/-- an index out of the table. -/
theorem Name_no (A : Option Addr) (n c : Nat) (xs : List Int) (k : Int) (w : World) (hr : Rd w A n (bys xs)) (hb : IsB xs) (hn : n ≤ 1000000) (hv : badL xs = -1) (hk0 : -9223372036854775808 ≤ k) (hk1 : k < 9223372036854775808) (hk : k < 0 ∨ (n : Int) ≤ k) :
    Calls Try.prog 13 #[.slice A n c, .int .i64 k] w fun e w' => e = .returned (.tuple #[.string ⟨#[]⟩, .bool false]) ∧ Below w.heap.size w w' := by
  clear hv hr hb
  rcases (show k < 0 ∨ (0 ≤ k ∧ (n : Int) ≤ k) by omega) with h | ⟨h, h'⟩
  · have d : decide (k < 0) = true := by simpa using h
    go_enter Try.func13, Try.ntmps13
    go_wp2_with fail
    go_ret2
    exact ⟨rfl, bl_refl _⟩
  · have d : decide (k < 0) = false := by simp; omega
    have d' : decide ((n : Int) ≤ k) = true := by simpa using h'
    go_enter Try.func13, Try.ntmps13
    go_wp2_with fail
    go_ret2
    exact ⟨rfl, bl_refl _⟩
set_option maxHeartbeats 4000000 in
theorem Name (A : Option Addr) (n c : Nat) (xs : List Int) (k : Nat) (w : World) (hr : Rd w A n (bys xs)) (hb : IsB xs) (hn : n ≤ 1000000) (hnc : n ≤ c) (hc : c ≤ 9223372036854775807) (hv : badL xs = -1) (hk : k < n) :
    Calls Try.prog 13 #[.slice A n c, .int .i64 k] w fun e w' => e = .returned (.tuple #[.string (bS (nameL xs k)), .bool true]) ∧ Below w.heap.size w w' := by
  have hlen : xs.length = n := by have := hr.len; simpa using this
  obtain ⟨q, h1, h2, h3, h4⟩ := twi_facts nz (xs.drop k)
  have hna : nameL xs k = (xs.drop k).take q := by
    unfold nameL
    rw [← h1]
    exact (List.take_left' (l₂ := (xs.drop k).dropWhile nz) rfl).symm.trans (by rw [List.takeWhile_append_dropWhile])
  have hla := ((badL_iff xs).1 hv).2
  have hqn : q < n - k := by
    rcases Nat.lt_or_ge q (n - k) with h | h
    · exact h
    · rw [List.getLast?_eq_getElem?, hlen] at hla
      have := h3 (n - 1 - k) 0 (by omega) (by rw [List.getElem?_drop, show k + (n - 1 - k) = n - 1 by omega]; exact hla)
      simp [nz] at this
  have hq : (xs.drop k)[q]? = some 0 := by
    have e : (xs.drop k)[q]? = some ((xs.drop k)[q]'(by simp; omega)) := List.getElem?_eq_getElem _
    have := h4 _ e
    rw [e]
    simpa [nz] using this
  have hbk : IsB (xs.drop k) := fun x hx => hb x (List.mem_of_mem_drop hx)
  have hkk : ∀ j x, j < q → (xs.drop k)[j]? = some x → ¬ x = 0 := fun j x hj hx => by have := h3 j x hj hx; simpa [nz] using this
  obtain ⟨ad, _, rfl, _, _⟩ := rd_at hr hk
  have hcut := hr.cut (k := k) (cap := c) (by omega) hnc
  rw [if_neg (by omega), ← List.map_drop] at hcut
  have CT := hide (fun B W (h : Rd W (some (ad.add k)) (n - k) (bys (xs.drop k))) hy => by_.Cut0 (ad.add k) B (n - k) (c - k) 1 q (xs.drop k) W h hbk (by omega) (by omega) (by omega) hkk hq hy)
  have CV := hide (fun W c' (h : Rd W (some (ad.add k)) (n - k) (bys (xs.drop k))) => convS (c := c') (show Rd W (some (ad.add k)) q (bys (nameL xs k)) by rw [hna]; have := h.take (k := q) (by omega); rwa [← List.map_take] at this) (fun x hx => hbk x (by rw [hna] at hx; exact List.mem_of_mem_take hx)))
  generalize nameL xs k = nm at *
  generalize bS nm = s at *
  replace hcut := hide hcut
  have d1 : decide ((k : Int) < 0) = false := by simp
  have d2 : decide ((n : Int) ≤ (k : Int)) = false := by simp; omega
  have d3 : (k : Int) ≤ (n : Int) := by omega
  clear h1 h2 h3 h4 hr hb hlen hna hla hq hbk hkk hv
  go_enter Try.func13, Try.ntmps13
  go_wp2_with fail
  refine (CT.out _ _ (hcut.out.alloc _) (Ow.lit _ _ [.int .u8 0] (by simp [maxLen])).rd).mono ?_
  rintro e w1 ⟨⟨A2, n2, c2, rfl⟩, hb1⟩
  have hcv := CV.out w1 (c - k) ((hcut.out.alloc _).below hb1)
  replace hb1 := hide (bel_next (bl_new _ _) hb1)
  go_wp2_with fail
  go_ret2
  exact ⟨rfl, hb1.out⟩
end ds_
end Go.Proofs.Ytahldefkhhbdhaa
