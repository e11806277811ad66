/-
  CONTRACTS OF PACKAGE hms, of the code that landed at bbb9e53. Conditions: a string of at most 1,000,000 bytes; for Format a duration in range, and the table of powers of ten that strconv reads.
-/
import Derived.Test.YtgbojphbodijbaaDoorTabP
import Derived.Test.YtgbojphbodijbaaDoorHmMath
import Derived.Test.YtgbojphbodijbaaDoorRng
import Derived.Deep.RegionHeld3
namespace Go.Proofs.YtgbojphbodijbaaDoor
open Go.ChangeShapes Go.WideShapes Go.ChangeAt Go.RowKit
set_option linter.unusedVariables false
theorem hh_d2 {v : Int} (h0 : 0 ≤ v) (h1 : v ≤ 59) : (v < 10 → d2 v = 48 :: hh v) ∧ (10 ≤ v → d2 v = hh v) := by
  constructor
  · intro h
    unfold d2 hh
    rw [if_neg (by omega), if_neg (by omega), show v / 10 = 0 by omega]
    rfl
  · intro h
    unfold d2 hh
    rw [if_neg (by omega), if_pos h, show v / 10 % 10 = v / 10 by omega]
    rfl
theorem hh_len {v : Int} (h0 : 0 ≤ v) (h1 : v ≤ 167) : (hh v).length ≤ 3 := (hh_val h0 h1).2.2.1
/-- what the sign's size is. -/
def sgn (l : List UInt8) : Nat := match l with | [] => 0 | c :: _ => if (c.toNat : Int) = 43 ∨ (c.toNat : Int) = 45 then 1 else 0
namespace hm_
theorem InRange (x : Int) (w : World) (h0 : -9223372036854775808 ≤ x) (h1 : x < 9223372036854775808) : Calls Tryd.prog 11 #[.int .i64 x] w fun e w' => e = .returned (.bool (decide (-604800 < x) && decide (x < 604800))) ∧ Below w.heap.size w w' := by
  rcases (show x < -604799 ∨ 604799 < x ∨ (-604799 ≤ x ∧ x ≤ 604799) by omega) with a | a | ⟨a, b⟩
  all_goals
    clear h0 h1
    go_enter Tryd.func11, Tryd.ntmps11
    go_wp2
    go_ret
    exact ⟨retb (by rw [Bool.eq_iff_iff]; simp; omega), bl_refl _⟩
theorem formatField (v : Int) (w : World) (hT : Tp w) (h0 : 0 ≤ v) (h1 : v ≤ 59) : Calls Tryd.prog 23 #[.int .i64 v] w fun e w' => e = .returned (.string (mkS (58 :: d2 v))) ∧ Below w.heap.size w w' := by
  have I := hide (fun w hT => Itoa_ v w hT h0 (by omega))
  obtain ⟨X, hX⟩ : ∃ X, X = mkS (hh v) := ⟨_, rfl⟩
  have bX := hide (show byt X = hh v by rw [hX, byt_mk])
  have sX : X.size ≤ 3 := by rw [← len_byt, bX.out]; exact hh_len h0 (by omega)
  rw [← hX] at I
  clear hX
  have D := hide (hh_d2 h0 h1)
  by_cases hv : v < 10
  · go_enter Tryd.func23, Tryd.ntmps23
    go_wp2_with fail
    refine (I.out _ hT).mono ?_
    rintro e w1 ⟨rfl, hb⟩
    go_wp2
    go_ret
    exact ⟨retS2 (by rw [← byt_inj, byt_append, bX.out, byt_mk, D.out.1 hv]; rfl), hb⟩
  · go_enter Tryd.func23, Tryd.ntmps23
    go_wp2_with fail
    refine (I.out _ hT).mono ?_
    rintro e w1 ⟨rfl, hb⟩
    go_wp2
    go_ret
    exact ⟨retS2 (by rw [← byt_inj, byt_append, bX.out, byt_mk, D.out.2 (by omega)]; rfl), hb⟩
theorem signSize (s : ByteArray) (w : World) (hs : s.size ≤ 1000000) : Calls Tryd.prog 16 #[.string s] w fun e w' => e = .returned (.int .i64 (sgn (byt s))) ∧ w = w' := by
  cases h : byt s with
  | nil =>
    have e : s = ⟨#[]⟩ := by rw [← byt_inj, h]
    subst e
    go_enter Tryd.func16, Tryd.ntmps16
    go_wp2
    go_ret
    exact ⟨rfl, rfl⟩
  | cons c t =>
    obtain ⟨hi, hc, _⟩ := drop_cons (s := s) (i := 0) (c := c) (t := t) (by rw [h]; rfl)
    obtain ⟨x, hx⟩ : ∃ x : Int, (c.toNat : Int) = x := ⟨_, rfl⟩
    have hf := hide (show sgn (c :: t) = if x = 43 ∨ x = 45 then 1 else 0 by show (if (c.toNat : Int) = 43 ∨ (c.toNat : Int) = 45 then 1 else 0) = _; rw [hx])
    rw [hf.out]
    rw [← hc] at hx
    have hne : ¬ s = ⟨#[]⟩ := by rintro rfl; exact absurd hi (by decide)
    have hne2 := seq_ne hne
    have hne3 : s.toList.isEmpty = false := by
      rcases q : s.toList with _ | _
      · rw [q, show (⟨#[]⟩ : ByteArray).toList = [] by simp] at hne2; exact absurd hne2 (by decide)
      · rfl
    clear hne hne2
    clear h hc
    rcases (show x = 43 ∨ x = 45 ∨ ((x == 43) = false ∧ (x == 45) = false) by by_cases a : x = 43 <;> by_cases b : x = 45 <;> simp [a, b]) with rfl | rfl | ⟨h4, h5⟩
    · go_enter Tryd.func16, Tryd.ntmps16
      go_wp2
      go_ret
      exact ⟨rfl, rfl⟩
    · go_enter Tryd.func16, Tryd.ntmps16
      go_wp2
      go_ret
      exact ⟨rfl, rfl⟩
    · have hno : ¬ (x = 43 ∨ x = 45) := by simp at h4 h5; omega
      rw [if_neg hno]
      clear hno
      go_enter Tryd.func16, Tryd.ntmps16
      go_wp2
      go_ret
      exact ⟨rfl, rfl⟩
theorem countDigits (s : ByteArray) (w : World) (hs : s.size ≤ 1000000) : Calls Tryd.prog 17 #[.string s] w fun e w' => e = .returned (.int .i64 ((byt s).takeWhile dig).length) ∧ w = w' := by
  obtain ⟨n, hn, hle, hin, hout⟩ := pre_facts dig s
  rw [hn]
  have H1 := hide hin
  have H2 := hide hout
  clear hn hin hout
  go_enter Tryd.func17, Tryd.ntmps17
  go_wp2
  go_loop [3] (fun v => ∃ k : Nat, k ≤ n ∧ v = .int .i64 k) (fun v => n + 1 - (intOf v).toNat)
  case atStart => exact ⟨0, Nat.zero_le _, rfl⟩
  case round =>
    obtain ⟨k, hk, rfl⟩ := hrel
    by_cases hlt : k < n
    · have hks : k < s.size := by omega
      obtain ⟨y0, y1⟩ := r8_.dig_bd (H1.out k hks hlt)
      go_wp2
      go_round
      case rel => exact ⟨k + 1, by omega, by go_num⟩
      case measure => simp [intOf]; omega
    · obtain rfl : k = n := by omega
      have hend : s.size ≤ k ∨ (∃ h : k < s.size, ((s[k]'h).toNat : Int) < 48 ∨ 57 < ((s[k]'h).toNat : Int)) := by
        rcases Nat.lt_or_ge k s.size with h | h
        · refine .inr ⟨h, ?_⟩
          have := H2.out h
          unfold dig at this
          simp at this
          omega
        · exact .inl h
      rcases hend with he | ⟨he, he | he⟩
      all_goals
        go_wp2
        go_ret
        exact ⟨rfl, rfl⟩
theorem number (s : ByteArray) (w : World) (hs : s.size ≤ 3) (hd : ∀ c ∈ byt s, dig c = true) : Calls Tryd.prog 18 #[.string s] w fun e w' => e = .returned (.int .i64 (dval (byt s))) ∧ w = w' := by
  have hl := len_byt s
  have HD := hide (fun k (h : k < s.size) => hd s[k] (by rw [← get_byt s k h]; exact List.getElem_mem _))
  have HB := hide (fun k (hk : k ≤ s.size) => dval_bd k ((byt s).take k) (by rw [List.length_take]; omega) (fun c hc => hd c (List.mem_of_mem_take hc)) (by omega))
  have HS := hide (fun k (h : k < s.size) => show dval ((byt s).take (k + 1)) = 10 * dval ((byt s).take k) + s[k].toNat - 48 by
    rw [List.take_succ_eq_append_getElem (by rw [hl]; exact h), dval_snoc, get_byt])
  have HE := hide (show dval (byt s) = dval ((byt s).take s.size) by rw [List.take_of_length_le (by omega)])
  clear hd hl
  go_enter Tryd.func18, Tryd.ntmps18
  go_wp2
  go_loop [3, 7] (fun v i => ∃ (k : Nat) (x : Int), k ≤ s.size ∧ i = .int .i64 k ∧ v = .int .i64 x ∧ 0 ≤ x ∧ x ≤ 999 ∧ Hid (x = dval ((byt s).take k))) (fun _ i => s.size - (intOf i).toNat)
  case atStart => exact ⟨0, 0, Nat.zero_le _, rfl, rfl, by omega, by omega, hide rfl⟩
  case round =>
    obtain ⟨k, x, hk, rfl, rfl, x0, x1, hx⟩ := hrel
    rcases Nat.lt_or_ge k s.size with hlt | hge
    · obtain ⟨y, hy⟩ : ∃ y : Int, (s[k].toNat : Int) = y := ⟨_, rfl⟩
      obtain ⟨y0, y1⟩ := r8_.dig_bd (HD.out k hlt)
      rw [hy] at y0 y1
      have e1 := HS.out k hlt
      have e2 := HB.out (k + 1) hlt
      rw [← hx.out, hy] at e1
      rw [e1] at e2
      replace e1 := hide e1
      obtain ⟨e2, e3, _⟩ := e2
      go_wp2
      go_round
      case rel => exact ⟨k + 1, 10 * x + y - 48, by omega, by go_num, by go_num, e2, e3, hide e1.out.symm⟩
      case measure => simp [intOf]; omega
    · obtain rfl : k = s.size := by omega
      go_wp2
      go_ret
      exact ⟨reti (by rw [HE.out]; exact hx.out), rfl⟩
theorem fld2 {a b : UInt8} : dval [a, b] = 10 * ((a.toNat : Int) - 48) + b.toNat - 48 := by unfold dval; simp
theorem field (s : ByteArray) (w : World) (hs : s.size ≤ 1000000) : Calls Tryd.prog 25 #[.string s, .int .i64 59] w fun e w' => e = .returned (.tuple #[.int .i64 (if 0 ≤ hmsField (byt s) then hmsField (byt s) else 0), .bool (decide (0 ≤ hmsField (byt s)))]) ∧ w = w' := by
  have hl := len_byt s
  rcases hb : byt s with _ | ⟨c, _ | ⟨a, _ | ⟨b, t⟩⟩⟩
  · rw [hb] at hl
    have h3 : s.size = 0 := hl.symm
    clear hl hb
    go_enter Tryd.func25, Tryd.ntmps25
    go_wp2
    go_ret2
    exact ⟨rfl, rfl⟩
  · rw [hb] at hl
    have h3 : s.size = 1 := hl.symm
    clear hl hb
    go_enter Tryd.func25, Tryd.ntmps25
    go_wp2
    go_ret2
    exact ⟨rfl, rfl⟩
  · rw [hb] at hl
    have h3 : s.size = 2 := hl.symm
    clear hl hb
    go_enter Tryd.func25, Tryd.ntmps25
    go_wp2
    go_ret2
    exact ⟨rfl, rfl⟩
  have h3 : 3 ≤ s.size := by rw [← hl, hb]; simp
  obtain ⟨hi, hc, _⟩ := drop_cons (s := s) (i := 0) (c := c) (t := a :: b :: t) (by rw [hb]; rfl)
  obtain ⟨x, hx⟩ : ∃ x : Int, (c.toNat : Int) = x := ⟨_, rfl⟩
  have hsub : byt (s.extract 1 3) = [a, b] := by rw [byt_extract, hb]; rfl
  have hss : (s.extract 1 3).size = 2 := by rw [← len_byt, hsub]; rfl
  have C := hide (fun w => countDigits (s.extract 1 3) w (by omega))
  rw [hsub] at C
  obtain ⟨v, hv⟩ : ∃ v, v = hmsField (c :: a :: b :: t) := ⟨_, rfl⟩
  have hvd : v = if x = 58 ∧ dig a ∧ dig b ∧ 10 * ((a.toNat : Int) - 48) + b.toNat - 48 ≤ 59 then 10 * ((a.toNat : Int) - 48) + b.toNat - 48 else -1 := by rw [hv, ← hx]; rfl
  rw [← hv]
  rw [← hc] at hx
  clear hl hb hc hv
  rcases (show x = 58 ∨ (x != 58) = true by by_cases h : x = 58 <;> simp [h]) with rfl | h58
  rotate_left
  · have hF : v = -1 := by rw [hvd, if_neg (by simp at h58; omega)]
    subst hF
    clear hvd C hsub hss
    go_enter Tryd.func25, Tryd.ntmps25
    go_wp2
    go_ret2
    exact ⟨rfl, rfl⟩
  rcases ha : dig a
  · have hF : v = -1 := by rw [hvd, if_neg (by rw [ha]; simp)]
    subst hF
    rw [show ([a, b].takeWhile dig).length = 0 by simp [ha]] at C
    clear hvd hsub hss ha
    go_enter Tryd.func25, Tryd.ntmps25
    go_wp2_with (go_at_call 17; refine (C.out _).mono ?_; rintro e w' ⟨rfl, rfl⟩)
    go_ret2
    exact ⟨rfl, rfl⟩
  rcases hb : dig b
  · have hF : v = -1 := by rw [hvd, if_neg (by rw [hb]; simp)]
    subst hF
    rw [show ([a, b].takeWhile dig).length = 1 by simp [ha, hb]] at C
    clear hvd hsub hss ha hb
    go_enter Tryd.func25, Tryd.ntmps25
    go_wp2_with (go_at_call 17; refine (C.out _).mono ?_; rintro e w' ⟨rfl, rfl⟩)
    go_ret2
    exact ⟨rfl, rfl⟩
  rw [show ([a, b].takeWhile dig).length = 2 by simp [ha, hb]] at C
  have N := hide (fun w => number (s.extract 1 3) w (by omega) (by rw [hsub]; intro c hc; simp at hc; rcases hc with rfl | rfl <;> assumption))
  rw [hsub, fld2] at N
  have A1 := r8_.dig_bd ha
  have B1 := r8_.dig_bd hb
  rw [ha, hb] at hvd
  obtain ⟨y, hy⟩ : ∃ y, y = 10 * ((a.toNat : Int) - 48) + b.toNat - 48 := ⟨_, rfl⟩
  rw [← hy] at hvd N
  have y0 : 0 ≤ y := by omega
  have y1 : y ≤ 99 := by omega
  clear hsub hss ha hb A1 B1 hy
  by_cases h59 : y ≤ 59
  · have hF : v = y := by rw [hvd, if_pos ⟨rfl, rfl, rfl, h59⟩]
    subst hF
    rw [show (if 0 ≤ v then v else 0) = v from if_pos y0, show decide (0 ≤ v) = true by simp [y0]]
    clear hvd
    go_enter Tryd.func25, Tryd.ntmps25
    go_wp2_with (first
      | (go_at_call 17; refine (C.out _).mono ?_; rintro e w' ⟨rfl, rfl⟩)
      | (go_at_call 18; refine (N.out _).mono ?_; rintro e w' ⟨rfl, rfl⟩))
    go_ret2
    exact ⟨rfl, rfl⟩
  · have hF : v = -1 := by rw [hvd, if_neg (by omega)]
    subst hF
    clear hvd
    go_enter Tryd.func25, Tryd.ntmps25
    go_wp2_with (first
      | (go_at_call 17; refine (C.out _).mono ?_; rintro e w' ⟨rfl, rfl⟩)
      | (go_at_call 18; refine (N.out _).mono ?_; rintro e w' ⟨rfl, rfl⟩))
    go_ret2
    exact ⟨rfl, rfl⟩
theorem sz_byt {s : ByteArray} {l : List UInt8} {n : Nat} (h : Hid (byt s = l)) (hn : l.length ≤ n) : s.size ≤ n := by rw [← len_byt, h.out]; exact hn
set_option maxHeartbeats 2000000 in
theorem Format (x : Int) (w : World) (hT : Tp w) (h0 : -604800 < x) (h1 : x < 604800) : Calls Tryd.prog 13 #[.int .i64 x] w fun e w' => e = .returned (.string (mkS (hmsFmt x))) ∧ Below w.heap.size w w' := by
  have HT := hide hT
  clear hT
  obtain ⟨r, hr⟩ : ∃ r, r = hmsFmt x := ⟨_, rfl⟩
  rw [← hr]
  obtain ⟨neg, y, hneg⟩ : ∃ (neg : Bool) (y : Int), (neg = true ∧ x = -y ∧ 0 < y) ∨ (neg = false ∧ x = y ∧ 0 ≤ y) := by
    by_cases h : x < 0
    · exact ⟨true, -x, .inl ⟨rfl, by omega, by omega⟩⟩
    · exact ⟨false, x, .inr ⟨rfl, rfl, by omega⟩⟩
  have y0 : 0 ≤ y := by omega
  have y1 : y < 604800 := by omega
  have hr2 : r = (if neg then [45] else []) ++ hmsAbs y := by
    rcases hneg with ⟨rfl, rfl, hy⟩ | ⟨rfl, rfl, hy⟩
    · rw [hr]; unfold hmsFmt; rw [if_pos (by omega), Int.neg_neg]; rfl
    · rw [hr]; unfold hmsFmt; rw [if_neg (by omega)]; rfl
  clear hr
  obtain ⟨H, hH⟩ : ∃ H, H = y / 3600 := ⟨_, rfl⟩
  obtain ⟨Q, hQ⟩ : ∃ Q, Q = y / 60 := ⟨_, rfl⟩
  obtain ⟨M, hM⟩ : ∃ M, M = Q % 60 := ⟨_, rfl⟩
  obtain ⟨C, hC⟩ : ∃ C, C = y % 60 := ⟨_, rfl⟩
  have eH : y.tdiv 3600 = H := by rw [Int.tdiv_eq_ediv_of_nonneg y0, hH]
  have eQ : y.tdiv 60 = Q := by rw [Int.tdiv_eq_ediv_of_nonneg y0, hQ]
  have eM : Q.tmod 60 = M := by rw [Int.tmod_eq_emod_of_nonneg (by omega), hM]
  have eC : y.tmod 60 = C := by rw [Int.tmod_eq_emod_of_nonneg y0, hC]
  have H0 : 0 ≤ H := by omega
  have H1 : H ≤ 167 := by omega
  have M0 : 0 ≤ M := by omega
  have M1 : M ≤ 59 := by omega
  have C0 : 0 ≤ C := by omega
  have C1 : C ≤ 59 := by omega
  have Q0 : 0 ≤ Q := by omega
  have Q1 : Q ≤ 10080 := by omega
  have hr3 : r = (if neg then [45] else []) ++ (hh H ++ ((if M = 0 ∧ C = 0 then [] else 58 :: d2 M) ++ (if C = 0 then [] else 58 :: d2 C))) := by
    rw [hr2]
    unfold hmsAbs
    rw [hH, ← hQ, ← hM, ← hC]
    congr 3
    · by_cases h : M = 0 ∧ C = 0
      · rw [if_pos h, if_neg (by omega)]
      · rw [if_neg h, if_pos (by omega)]
    · by_cases h : C = 0
      · rw [if_pos h, if_neg (by omega)]
      · rw [if_neg h, if_pos (by omega)]
  clear hr2 hH hQ hM hC
  have I := hide (fun w hT => Itoa_ H w hT H0 H1)
  have FM := hide (fun w hT => formatField M w hT M0 M1)
  have FC := hide (fun w hT => formatField C w hT C0 C1)
  obtain ⟨X, hX⟩ : ∃ X, X = mkS (hh H) := ⟨_, rfl⟩
  obtain ⟨Y, hY⟩ : ∃ Y, Y = mkS (58 :: d2 M) := ⟨_, rfl⟩
  obtain ⟨Z, hZ⟩ : ∃ Z, Z = mkS (58 :: d2 C) := ⟨_, rfl⟩
  rw [← hX] at I
  rw [← hY] at FM
  rw [← hZ] at FC
  have bX := hide (show byt X = hh H by rw [hX, byt_mk])
  have bY := hide (show byt Y = 58 :: d2 M by rw [hY, byt_mk])
  have bZ := hide (show byt Z = 58 :: d2 C by rw [hZ, byt_mk])
  have sX := sz_byt bX (hh_len H0 H1)
  have sY : Y.size ≤ 3 := sz_byt bY (Nat.le_refl _)
  have sZ : Z.size ≤ 3 := sz_byt bZ (Nat.le_refl _)
  have hb := hide (Below.refl w.heap.size w)
  replace hr3 := hide hr3
  clear hX hY hZ
  rcases hneg with ⟨rfl, rfl, hy⟩ | ⟨rfl, rfl, hy⟩
  all_goals
    rcases (show (M = 0 ∧ C = 0) ∨ ((M != 0) = true ∧ C = 0) ∨ (M = 0 ∧ (C != 0) = true) ∨ ((M != 0) = true ∧ (C != 0) = true) by by_cases a : M = 0 <;> by_cases b : C = 0 <;> simp [a, b]) with ⟨rfl, rfl⟩ | ⟨m0, rfl⟩ | ⟨rfl, c0⟩ | ⟨m0, c0⟩
    all_goals
      go_enter Tryd.func13, Tryd.ntmps13
      go_wp2_with (first
        | (go_at_call 22; with_reducible refine (I.out _ (HT.out.below hb.out)).mono ?_; rintro e w1 ⟨rfl, h1⟩; replace hb := hide (bel_next hb.out h1); clear h1)
        | (go_at_call 23; with_reducible refine (FM.out _ (HT.out.below hb.out)).mono ?_; rintro e w1 ⟨rfl, h1⟩; replace hb := hide (bel_next hb.out h1); clear h1)
        | (go_at_call 23; with_reducible refine (FC.out _ (HT.out.below hb.out)).mono ?_; rintro e w1 ⟨rfl, h1⟩; replace hb := hide (bel_next hb.out h1); clear h1))
      go_ret
      refine ⟨retS2 ?_, hb.out⟩
      rw [← byt_inj, byt_mk, hr3.out]
      simp only [byt_append, bX.out, bY.out, bZ.out]
      try rfl
      all_goals (try simp_all [byt1])
end hm_
end Go.Proofs.YtgbojphbodijbaaDoor
