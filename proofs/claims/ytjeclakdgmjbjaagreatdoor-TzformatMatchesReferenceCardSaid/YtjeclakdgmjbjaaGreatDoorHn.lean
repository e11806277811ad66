/-
  CONTRACTS OF PACKAGE hms, of the code that landed at bbb9e53: the parts of Parse. Condition: a string of at most 1,000,000 bytes.
-/
import Derived.Test.YtjeclakdgmjbjaaGreatDoorHmMath
import Derived.Test.YtjeclakdgmjbjaaGreatDoorRng
import Derived.Deep.RegionHeld3
namespace Go.Proofs.YtjeclakdgmjbjaaGreatDoor
open Go.ChangeShapes Go.WideShapes Go.ChangeAt Go.RowKit
set_option linter.unusedVariables false
set_option maxRecDepth 100000
/-- what the sign's size is. -/
def sgn (l : List UInt8) : Nat := match l with | [] => 0 | c :: _ => if (c.toNat : Int) = 43 ∨ (c.toNat : Int) = 45 then 1 else 0
namespace hm_
theorem signSize (s : ByteArray) (w : World) (hs : s.size ≤ 1000000) : Calls Tryz.prog 86 #[.string s] w fun e w' => e = .returned (.int .i64 (sgn (byt s))) ∧ w = w' := by
  cases h : byt s with
  | nil =>
    have e : s = ⟨#[]⟩ := by rw [← byt_inj, h]
    subst e
    go_enter Tryz.func86, Tryz.ntmps86
    go_wp2
    go_ret
    exact ⟨rfl, rfl⟩
  | cons c t =>
    obtain ⟨hi, hc, _⟩ := drop_cons (s := s) (i := 0) (c := c) (t := t) (by rw [h]; rfl)
    obtain ⟨x, hx⟩ : ∃ x : Int, (c.toNat : Int) = x := ⟨_, rfl⟩
    have hf := hide (show sgn (c :: t) = if x = 43 ∨ x = 45 then 1 else 0 by show (if (c.toNat : Int) = 43 ∨ (c.toNat : Int) = 45 then 1 else 0) = _; rw [hx])
    rw [hf.out]
    rw [← hc] at hx
    have hne : ¬ s = ⟨#[]⟩ := by rintro rfl; exact absurd hi (by decide)
    have hne2 := seq_ne hne
    have hne3 : s.toList.isEmpty = false := by
      rcases q : s.toList with _ | _
      · rw [q, show (⟨#[]⟩ : ByteArray).toList = [] by simp] at hne2; exact absurd hne2 (by decide)
      · rfl
    clear hne hne2
    clear h hc
    rcases (show x = 43 ∨ x = 45 ∨ ((x == 43) = false ∧ (x == 45) = false) by by_cases a : x = 43 <;> by_cases b : x = 45 <;> simp [a, b]) with rfl | rfl | ⟨h4, h5⟩
    · go_enter Tryz.func86, Tryz.ntmps86
      go_wp2
      go_ret
      exact ⟨rfl, rfl⟩
    · go_enter Tryz.func86, Tryz.ntmps86
      go_wp2
      go_ret
      exact ⟨rfl, rfl⟩
    · have hno : ¬ (x = 43 ∨ x = 45) := by simp at h4 h5; omega
      rw [if_neg hno]
      clear hno
      go_enter Tryz.func86, Tryz.ntmps86
      go_wp2
      go_ret
      exact ⟨rfl, rfl⟩
theorem countDigits (s : ByteArray) (w : World) (hs : s.size ≤ 1000000) : Calls Tryz.prog 87 #[.string s] w fun e w' => e = .returned (.int .i64 ((byt s).takeWhile dig).length) ∧ w = w' := by
  obtain ⟨n, hn, hle, hin, hout⟩ := pre_facts dig s
  rw [hn]
  have H1 := hide hin
  have H2 := hide hout
  clear hn hin hout
  go_enter Tryz.func87, Tryz.ntmps87
  go_wp2
  go_loop [3] (fun v => ∃ k : Nat, k ≤ n ∧ v = .int .i64 k) (fun v => n + 1 - (intOf v).toNat)
  case atStart => exact ⟨0, Nat.zero_le _, rfl⟩
  case round =>
    obtain ⟨k, hk, rfl⟩ := hrel
    by_cases hlt : k < n
    · have hks : k < s.size := by omega
      obtain ⟨y0, y1⟩ := r8_.dig_bd (H1.out k hks hlt)
      go_wp2
      go_round
      case rel => exact ⟨k + 1, by omega, by go_num⟩
      case measure => simp [intOf]; omega
    · obtain rfl : k = n := by omega
      have hend : s.size ≤ k ∨ (∃ h : k < s.size, ((s[k]'h).toNat : Int) < 48 ∨ 57 < ((s[k]'h).toNat : Int)) := by
        rcases Nat.lt_or_ge k s.size with h | h
        · refine .inr ⟨h, ?_⟩
          have := H2.out h
          unfold dig at this
          simp at this
          omega
        · exact .inl h
      rcases hend with he | ⟨he, he | he⟩
      all_goals
        go_wp2
        go_ret
        exact ⟨rfl, rfl⟩
theorem number (s : ByteArray) (w : World) (hs : s.size ≤ 3) (hd : ∀ c ∈ byt s, dig c = true) : Calls Tryz.prog 88 #[.string s] w fun e w' => e = .returned (.int .i64 (dval (byt s))) ∧ w = w' := by
  have hl := len_byt s
  have HD := hide (fun k (h : k < s.size) => hd s[k] (by rw [← get_byt s k h]; exact List.getElem_mem _))
  have HB := hide (fun k (hk : k ≤ s.size) => dval_bd k ((byt s).take k) (by rw [List.length_take]; omega) (fun c hc => hd c (List.mem_of_mem_take hc)) (by omega))
  have HS := hide (fun k (h : k < s.size) => show dval ((byt s).take (k + 1)) = 10 * dval ((byt s).take k) + s[k].toNat - 48 by
    rw [List.take_succ_eq_append_getElem (by rw [hl]; exact h), dval_snoc, get_byt])
  have HE := hide (show dval (byt s) = dval ((byt s).take s.size) by rw [List.take_of_length_le (by omega)])
  clear hd hl
  go_enter Tryz.func88, Tryz.ntmps88
  go_wp2
  go_loop [3, 7] (fun v i => ∃ (k : Nat) (x : Int), k ≤ s.size ∧ i = .int .i64 k ∧ v = .int .i64 x ∧ 0 ≤ x ∧ x ≤ 999 ∧ Hid (x = dval ((byt s).take k))) (fun _ i => s.size - (intOf i).toNat)
  case atStart => exact ⟨0, 0, Nat.zero_le _, rfl, rfl, by omega, by omega, hide rfl⟩
  case round =>
    obtain ⟨k, x, hk, rfl, rfl, x0, x1, hx⟩ := hrel
    rcases Nat.lt_or_ge k s.size with hlt | hge
    · obtain ⟨y, hy⟩ : ∃ y : Int, (s[k].toNat : Int) = y := ⟨_, rfl⟩
      obtain ⟨y0, y1⟩ := r8_.dig_bd (HD.out k hlt)
      rw [hy] at y0 y1
      have e1 := HS.out k hlt
      have e2 := HB.out (k + 1) hlt
      rw [← hx.out, hy] at e1
      rw [e1] at e2
      replace e1 := hide e1
      obtain ⟨e2, e3, _⟩ := e2
      go_wp2
      go_round
      case rel => exact ⟨k + 1, 10 * x + y - 48, by omega, by go_num, by go_num, e2, e3, hide e1.out.symm⟩
      case measure => simp [intOf]; omega
    · obtain rfl : k = s.size := by omega
      go_wp2
      go_ret
      exact ⟨reti (by rw [HE.out]; exact hx.out), rfl⟩
theorem fld2 {a b : UInt8} : dval [a, b] = 10 * ((a.toNat : Int) - 48) + b.toNat - 48 := by unfold dval; simp
theorem field (s : ByteArray) (w : World) (hs : s.size ≤ 1000000) : Calls Tryz.prog 100 #[.string s, .int .i64 59] w fun e w' => e = .returned (.tuple #[.int .i64 (if 0 ≤ hmsField (byt s) then hmsField (byt s) else 0), .bool (decide (0 ≤ hmsField (byt s)))]) ∧ w = w' := by
  have hl := len_byt s
  rcases hb : byt s with _ | ⟨c, _ | ⟨a, _ | ⟨b, t⟩⟩⟩
  · rw [hb] at hl
    have h3 : s.size = 0 := hl.symm
    clear hl hb
    go_enter Tryz.func100, Tryz.ntmps100
    go_wp2
    go_ret2
    exact ⟨rfl, rfl⟩
  · rw [hb] at hl
    have h3 : s.size = 1 := hl.symm
    clear hl hb
    go_enter Tryz.func100, Tryz.ntmps100
    go_wp2
    go_ret2
    exact ⟨rfl, rfl⟩
  · rw [hb] at hl
    have h3 : s.size = 2 := hl.symm
    clear hl hb
    go_enter Tryz.func100, Tryz.ntmps100
    go_wp2
    go_ret2
    exact ⟨rfl, rfl⟩
  have h3 : 3 ≤ s.size := by rw [← hl, hb]; simp
  obtain ⟨hi, hc, _⟩ := drop_cons (s := s) (i := 0) (c := c) (t := a :: b :: t) (by rw [hb]; rfl)
  obtain ⟨x, hx⟩ : ∃ x : Int, (c.toNat : Int) = x := ⟨_, rfl⟩
  have hsub : byt (s.extract 1 3) = [a, b] := by rw [byt_extract, hb]; rfl
  have hss : (s.extract 1 3).size = 2 := by rw [← len_byt, hsub]; rfl
  have C := hide (fun w => countDigits (s.extract 1 3) w (by omega))
  rw [hsub] at C
  obtain ⟨v, hv⟩ : ∃ v, v = hmsField (c :: a :: b :: t) := ⟨_, rfl⟩
  have hvd : v = if x = 58 ∧ dig a ∧ dig b ∧ 10 * ((a.toNat : Int) - 48) + b.toNat - 48 ≤ 59 then 10 * ((a.toNat : Int) - 48) + b.toNat - 48 else -1 := by rw [hv, ← hx]; rfl
  rw [← hv]
  rw [← hc] at hx
  clear hl hb hc hv
  rcases (show x = 58 ∨ (x != 58) = true by by_cases h : x = 58 <;> simp [h]) with rfl | h58
  rotate_left
  · have hF : v = -1 := by rw [hvd, if_neg (by simp at h58; omega)]
    subst hF
    clear hvd C hsub hss
    go_enter Tryz.func100, Tryz.ntmps100
    go_wp2
    go_ret2
    exact ⟨rfl, rfl⟩
  rcases ha : dig a
  · have hF : v = -1 := by rw [hvd, if_neg (by rw [ha]; simp)]
    subst hF
    rw [show ([a, b].takeWhile dig).length = 0 by simp [ha]] at C
    clear hvd hsub hss ha
    go_enter Tryz.func100, Tryz.ntmps100
    go_wp2_with (go_at_call 87; refine (C.out _).mono ?_; rintro e w' ⟨rfl, rfl⟩)
    go_ret2
    exact ⟨rfl, rfl⟩
  rcases hb : dig b
  · have hF : v = -1 := by rw [hvd, if_neg (by rw [hb]; simp)]
    subst hF
    rw [show ([a, b].takeWhile dig).length = 1 by simp [ha, hb]] at C
    clear hvd hsub hss ha hb
    go_enter Tryz.func100, Tryz.ntmps100
    go_wp2_with (go_at_call 87; refine (C.out _).mono ?_; rintro e w' ⟨rfl, rfl⟩)
    go_ret2
    exact ⟨rfl, rfl⟩
  rw [show ([a, b].takeWhile dig).length = 2 by simp [ha, hb]] at C
  have N := hide (fun w => number (s.extract 1 3) w (by omega) (by rw [hsub]; intro c hc; simp at hc; rcases hc with rfl | rfl <;> assumption))
  rw [hsub, fld2] at N
  have A1 := r8_.dig_bd ha
  have B1 := r8_.dig_bd hb
  rw [ha, hb] at hvd
  obtain ⟨y, hy⟩ : ∃ y, y = 10 * ((a.toNat : Int) - 48) + b.toNat - 48 := ⟨_, rfl⟩
  rw [← hy] at hvd N
  have y0 : 0 ≤ y := by omega
  have y1 : y ≤ 99 := by omega
  clear hsub hss ha hb A1 B1 hy
  by_cases h59 : y ≤ 59
  · have hF : v = y := by rw [hvd, if_pos ⟨rfl, rfl, rfl, h59⟩]
    subst hF
    rw [show (if 0 ≤ v then v else 0) = v from if_pos y0, show decide (0 ≤ v) = true by simp [y0]]
    clear hvd
    go_enter Tryz.func100, Tryz.ntmps100
    go_wp2_with (first
      | (go_at_call 87; refine (C.out _).mono ?_; rintro e w' ⟨rfl, rfl⟩)
      | (go_at_call 88; refine (N.out _).mono ?_; rintro e w' ⟨rfl, rfl⟩))
    go_ret2
    exact ⟨rfl, rfl⟩
  · have hF : v = -1 := by rw [hvd, if_neg (by omega)]
    subst hF
    clear hvd
    go_enter Tryz.func100, Tryz.ntmps100
    go_wp2_with (first
      | (go_at_call 87; refine (C.out _).mono ?_; rintro e w' ⟨rfl, rfl⟩)
      | (go_at_call 88; refine (N.out _).mono ?_; rintro e w' ⟨rfl, rfl⟩))
    go_ret2
    exact ⟨rfl, rfl⟩
theorem sz_byt {s : ByteArray} {l : List UInt8} {n : Nat} (h : Hid (byt s = l)) (hn : l.length ≤ n) : s.size ≤ n := by rw [← len_byt, h.out]; exact hn
end hm_
end Go.Proofs.YtjeclakdgmjbjaaGreatDoor
