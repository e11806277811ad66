/-
  PLAIN MATHEMATICS of designations (layer 7), and CONTRACTS OF PACKAGE zoneinforef07.
-/
import Derived.Test.YtjeclakdgmjbjaaGreatDoorRows
import Derived.Test.YtjeclakdgmjbjaaGreatDoorStr
namespace Go.Proofs.YtjeclakdgmjbjaaGreatDoor
open Go.ChangeShapes Go.WideShapes Go.ChangeAt Go.RowKit
set_option linter.unusedVariables false
set_option maxRecDepth 100000
def alphaI (x : Int) : Bool := (decide (65 ≤ x) && decide (x ≤ 90)) || (decide (97 ≤ x) && decide (x ≤ 122))
def alpha (c : UInt8) : Bool := alphaI c.toNat
def nameI (x : Int) : Bool := alphaI x || (decide (48 ≤ x) && decide (x ≤ 57)) || decide (x = 43) || decide (x = 45)
def nameB (c : UInt8) : Bool := nameI c.toNat
def nameOk (l : List UInt8) : Bool := decide (3 ≤ l.length) && decide (l.length ≤ 255) && l.all nameB
def letters (l : List UInt8) : Nat := (l.takeWhile alpha).length
/-- what Format gives. -/
def tnFmt (l : List UInt8) : List UInt8 := if letters l = l.length then l else 60 :: (l ++ [62])
def not62 (c : UInt8) : Bool := decide (¬ (c.toNat : Int) = 62)
/-- what Parse gives: the designation, and how much it takes. -/
def tnParse (l : List UInt8) : Option (List UInt8 × Nat) :=
  match l with
  | [] => none
  | a :: t =>
    if a.toNat = 60 then
      let q := t.takeWhile not62
      if q.length < t.length ∧ nameOk q then some (q, q.length + 2) else none
    else
      let q := l.takeWhile alpha
      if nameOk q then some (q, q.length) else none
def tnRes (r : Option (List UInt8 × Nat)) : Value :=
  match r with
  | none => .tuple #[.string ⟨#[]⟩, .int .i64 0, .bool false]
  | some (q, n) => .tuple #[.string (mkS q), .int .i64 n, .bool true]
theorem retV {a b : Value} (h : a = b) : Ending.returned a = .returned b := by rw [h]
theorem retS {a b : ByteArray} (h : a = b) : Ending.returned (.string a) = .returned (.string b) := by rw [h]
namespace r7_
theorem IsAlpha (x : Int) (w : World) (h0 : 0 ≤ x) (h1 : x < 256) : Calls Tryz.prog 46 #[.int .u8 x] w fun e w' => e = .returned (.bool (alphaI x)) ∧ w = w' := by
  go_enter Tryz.func46, Tryz.ntmps46
  go_wp2
  all_goals go_ret
  all_goals
    refine ⟨retb ?_, rfl⟩
    unfold alphaI
    rw [Bool.eq_iff_iff]
    simp
    try omega
theorem letters_ (s : ByteArray) (w : World) (hs : s.size ≤ maxLen) : Calls Tryz.prog 50 #[.string s] w fun e w' => e = .returned (.int .i64 (letters (byt s))) ∧ w = w' := by
  unfold maxLen at hs
  obtain ⟨q, hq⟩ : ∃ q, q = letters (byt s) := ⟨_, rfl⟩
  have hql : q ≤ s.size := by have := tw_le alpha (byt s); rw [len_byt] at this; rw [hq]; exact this
  have h1 : ∀ k (hk : k < q) (hs : k < s.size), alpha s[k] = true := fun k hk hs => by
    rw [← get_byt s k hs]
    exact tw_lt (by rw [hq] at hk; exact hk) _
  have h2 : ∀ h : q < s.size, alpha s[q] = false := fun h => by
    subst hq
    rw [← get_byt s _ h]
    exact tw_at (by rw [len_byt]; exact h)
  have H1 := hide h1
  have H2 := hide h2
  rw [← hq]
  clear hq h1 h2
  go_enter Tryz.func50, Tryz.ntmps50
  go_wp2
  go_loop [3] (fun n => ∃ k : Nat, k ≤ q ∧ n = .int .i64 k) (fun n => q + 1 - (intOf n).toNat)
  case atStart => exact ⟨0, Nat.zero_le _, rfl⟩
  case round =>
    obtain ⟨k, hk, rfl⟩ := hrel
    by_cases hlt : k < q
    · have hks : k < s.size := by omega
      have ha := hide (H1.out k hlt hks)
      have C := hide (fun w => IsAlpha (s[k].toNat : Int) w (by omega) (by have := (s[k]).toNat_lt; omega))
      rw [show alphaI (s[k].toNat : Int) = true from ha.out] at C
      go_wp2_with fail
      refine (C.out _).mono ?_
      rintro e w' ⟨rfl, rfl⟩
      go_wp2
      go_round
      case rel => exact ⟨k + 1, by omega, by go_num⟩
      case measure => simp [intOf]; omega
    · obtain rfl : k = q := by omega
      by_cases hks : k < s.size
      · have C := hide (fun w => IsAlpha (s[k].toNat : Int) w (by omega) (by have := (s[k]).toNat_lt; omega))
        rw [show alphaI (s[k].toNat : Int) = false from H2.out hks] at C
        go_wp2_with fail
        refine (C.out _).mono ?_
        rintro e w' ⟨rfl, rfl⟩
        go_wp2
        go_ret
        exact ⟨rfl, rfl⟩
      · go_wp2
        go_ret
        exact ⟨rfl, rfl⟩
set_option maxHeartbeats 2000000 in
theorem Valid (s : ByteArray) (w : World) (hs : s.size ≤ maxLen) : Calls Tryz.prog 26 #[.string s] w fun e w' => e = .returned (.bool (nameOk (byt s))) ∧ w = w' := by
  unfold maxLen at hs
  obtain ⟨q, hq⟩ : ∃ q, q = ((byt s).takeWhile nameB).length := ⟨_, rfl⟩
  have hql : q ≤ s.size := by have := tw_le nameB (byt s); rw [len_byt] at this; rw [hq]; exact this
  have h1 : ∀ k (hk : k < q) (hs : k < s.size), nameB s[k] = true := fun k hk hs => by
    rw [← get_byt s k hs]
    exact tw_lt (by rw [hq] at hk; exact hk) _
  have h2 : ∀ h : q < s.size, nameB s[q] = false := fun h => by
    subst hq
    rw [← get_byt s _ h]
    exact tw_at (by rw [len_byt]; exact h)
  have hf := hide (show nameOk (byt s) = (decide (3 ≤ s.size) && decide (s.size ≤ 255) && decide (q = s.size)) by
    unfold nameOk
    rw [all_tw, len_byt, hq])
  have H1 := hide h1
  have H2 := hide h2
  rw [hf.out]
  clear hq h1 h2 hf
  go_enter Tryz.func26, Tryz.ntmps26
  go_wp2
  go_loop [3] (fun n => ∃ k : Nat, k ≤ q ∧ n = .int .i64 k) (fun n => q + 1 - (intOf n).toNat)
  case atStart => exact ⟨0, Nat.zero_le _, rfl⟩
  case round =>
    obtain ⟨k, hk, rfl⟩ := hrel
    by_cases hlt : k < q
    · have hks : k < s.size := by omega
      have ha := H1.out k hlt hks
      have hc := (s[k]).toNat_lt
      unfold nameB at ha
      obtain ⟨x, hx⟩ : ∃ x : Int, (s[k].toNat : Int) = x := ⟨_, rfl⟩
      rw [hx] at ha
      have x0 : 0 ≤ x := by omega
      have x1 : x < 256 := by omega
      have C := hide (fun w => IsAlpha x w x0 x1)
      have ha' : alphaI x = true ∨ (alphaI x = false ∧ 48 ≤ x ∧ x ≤ 57) ∨ (alphaI x = false ∧ x = 43) ∨ (alphaI x = false ∧ x = 45) := by
        unfold nameI at ha
        cases h : alphaI x <;> simp [h] at ha ⊢ <;> omega
      clear ha hc
      rcases ha' with h | ⟨h, a1, a2⟩ | ⟨h, rfl⟩ | ⟨h, rfl⟩
      all_goals
        rw [h] at C
        clear h
        go_wp2_with fail
        refine (C.out _).mono ?_
        rintro e w' ⟨rfl, rfl⟩
        go_wp2
        go_round
        case rel => exact ⟨k + 1, by omega, by go_num⟩
        case measure => simp [intOf]; omega
    · obtain rfl : k = q := by omega
      by_cases hks : k < s.size
      · have ha := H2.out hks
        have hc := (s[k]).toNat_lt
        unfold nameB at ha
        obtain ⟨x, hx⟩ : ∃ x : Int, (s[k].toNat : Int) = x := ⟨_, rfl⟩
        rw [hx] at ha
        have x0 : 0 ≤ x := by omega
        have x1 : x < 256 := by omega
        have C := hide (fun w => IsAlpha x w x0 x1)
        have ha' : alphaI x = false ∧ (x < 48 ∨ 57 < x) ∧ ¬ x = 43 ∧ ¬ x = 45 := by
          unfold nameI at ha
          cases h : alphaI x <;> simp [h] at ha ⊢ <;> omega
        clear ha hc
        obtain ⟨h, a1, a2, a3⟩ := ha'
        have n2 : (x != 43) = true := by simpa using a2
        have n3 : (x != 45) = true := by simpa using a3
        clear a2 a3
        rw [h] at C
        clear h
        have e : (decide (3 ≤ s.size) && decide (s.size ≤ 255) && decide (k = s.size)) = false := by simp; omega
        have E := hide e
        clear e
        rcases a1 with a1 | a1
        all_goals
          go_wp2_with fail
          refine (C.out _).mono ?_
          rintro e w' ⟨rfl, rfl⟩
          go_wp2
          go_ret
          exact ⟨retb E.out.symm, rfl⟩
      · obtain rfl : k = s.size := by omega
        go_wp2
        all_goals go_ret
        all_goals
          refine ⟨retb ?_, rfl⟩
          rw [Bool.eq_iff_iff]; simp; omega
theorem Format (s : ByteArray) (w : World) (hs : s.size ≤ 1000000) : Calls Tryz.prog 29 #[.string s] w fun e w' => e = .returned (.string (mkS (tnFmt (byt s)))) ∧ w = w' := by
  have C := hide (fun w => letters_ s w (by unfold maxLen; omega))
  have hf := hide (show mkS (tnFmt (byt s)) = if letters (byt s) = s.size then s else mkS (60 :: (byt s ++ [62])) by
    unfold tnFmt
    rw [len_byt]
    split
    · rw [mk_byt]
    · rfl)
  obtain ⟨q, hq⟩ : ∃ q, letters (byt s) = q := ⟨_, rfl⟩
  rw [hq] at C hf
  have hql : q ≤ s.size := by have := tw_le alpha (byt s); rw [len_byt] at this; rw [← hq]; exact this
  clear hq
  by_cases h : q = s.size
  · subst h
    go_enter Tryz.func29, Tryz.ntmps29
    go_wp2_with fail
    refine (C.out _).mono ?_
    rintro e w' ⟨rfl, rfl⟩
    go_wp2
    go_ret
    exact ⟨retS (by rw [hf.out, if_pos trivial]), rfl⟩
  · go_enter Tryz.func29, Tryz.ntmps29
    go_wp2_with fail
    refine (C.out _).mono ?_
    rintro e w' ⟨rfl, rfl⟩
    go_wp2
    go_ret
    exact ⟨retS (by rw [hf.out, if_neg h]; apply byt_inj.1; rw [byt_mk, byt_append, byt_append]; rfl), rfl⟩
set_option maxHeartbeats 2000000 in
theorem Parse (s : ByteArray) (w : World) (hs : s.size ≤ 1000000) : Calls Tryz.prog 37 #[.string s] w fun e w' => e = .returned (tnRes (tnParse (byt s))) ∧ w = w' := by
  have V := hide (fun (t : ByteArray) w (h : t.size ≤ maxLen) => Valid t w h)
  have L := hide (fun w => letters_ s w (by unfold maxLen; omega))
  by_cases hq0 : 0 < s.size ∧ (byt s).head? = some 60
  · obtain ⟨h0, h1⟩ := hq0
    obtain ⟨t, ht⟩ : ∃ t, byt s = 60 :: t := by
      cases h : byt s with
      | nil => rw [h] at h1; cases h1
      | cons a t => rw [h] at h1; cases h1; exact ⟨t, rfl⟩
    have hlen : s.size = t.length + 1 := by rw [← len_byt, ht]; rfl
    have hs0 : (s[0]'h0).toNat = 60 := by rw [← get_byt s 0 h0]; simp [ht]
    obtain ⟨q, hq⟩ : ∃ q, q = (t.takeWhile not62).length := ⟨_, rfl⟩
    have hql : q ≤ t.length := by rw [hq]; exact tw_le _ _
    have h2 : ∀ k (hk : k < q) (hs : k + 1 < s.size), not62 (s[k + 1]'hs) = true := fun k hk hs => by
      rw [← get_byt s (k + 1) hs]
      have := tw_lt (p := not62) (l := t) (k := k) (by rw [← hq]; exact hk) (by omega)
      simpa [ht] using this
    have h3 : ∀ hs : q + 1 < s.size, not62 (s[q + 1]'hs) = false := fun hs => by
      rw [← get_byt s (q + 1) hs]
      have := tw_at (p := not62) (l := t) (by rw [← hq]; omega)
      simpa [ht, ← hq] using this
    have hb0 : (s[0]'h0).toNat = 60 := hs0
    have hme : byt (s.extract 1 (q + 1)) = t.takeWhile not62 := by
      rw [byt_extract, ht, hq]
      simp
      exact take_tw t
    have hf : tnParse (byt s) = if q < t.length ∧ nameOk (t.takeWhile not62) then some (t.takeWhile not62, q + 2) else none := by
      rw [ht]
      have : (60 : UInt8).toNat = 60 := rfl
      simp only [tnParse, this, if_pos]
      rw [← hq]
    have hms : mkS (t.takeWhile not62) = s.extract 1 (q + 1) := by rw [← hme, mk_byt]
    have V1 := hide (fun w => V.out (s.extract 1 (q + 1)) w (by rw [← len_byt, hme, ← hq]; unfold maxLen; omega))
    rw [hme] at V1
    obtain ⟨r, hr⟩ : ∃ r, r = tnRes (tnParse (byt s)) := ⟨_, rfl⟩
    rw [← hr]
    rw [hf] at hr
    replace hr := hide hr
    have Hms := hide hms
    generalize nameOk (t.takeWhile not62) = b at *
    generalize t.takeWhile not62 = u at *
    have H2 := hide h2
    have H3 := hide h3
    clear h2 h3 hf hme V L h1 ht hs0 hms hq
    replace hlen := hide hlen
    have hq1 : q + 1 ≤ s.size := by have := hlen.out; omega
    go_enter Tryz.func37, Tryz.ntmps37
    go_wp2
    go_loop [5] (fun n => ∃ k : Nat, k ≤ q ∧ n = .int .i64 ((k : Int) + 1)) (fun n => q + 2 - (intOf n).toNat)
    case atStart => exact ⟨0, Nat.zero_le _, rfl⟩
    case round =>
      obtain ⟨k, hk, rfl⟩ := hrel
      by_cases hlt : k < q
      · have hks : k + 1 < s.size := by omega
        have ha := H2.out k hlt hks
        have hx : ¬ (s[k + 1].toNat : Int) = 62 := by simpa [not62] using ha
        clear ha
        go_wp2
        go_round
        case rel => exact ⟨k + 1, by omega, by go_num⟩
        case measure => simp [intOf]; omega
      · obtain rfl : k = q := by omega
        by_cases hks : k + 1 < s.size
        · have ha := H3.out hks
          have hx : (s[k + 1].toNat : Int) = 62 := by simpa [not62] using ha
          clear ha
          have hkt : k < t.length := by have := hlen.out; omega
          have i1 : (1 : Int) ≤ (k : Int) + 1 := by omega
          have i2 : (k : Int) + 1 ≤ (s.size : Int) := by omega
          cases b
          · go_wp2_with fail
            refine (V1.out _).mono ?_
            rintro e w' ⟨rfl, rfl⟩
            go_wp2
            go_ret3
            exact ⟨retV (by rw [hr.out, if_neg (by simp)]; rfl), rfl⟩
          · go_wp2_with fail
            refine (V1.out _).mono ?_
            rintro e w' ⟨rfl, rfl⟩
            go_wp2
            go_ret3
            exact ⟨retV (by rw [hr.out, if_pos (by simp [hkt])]; simp only [tnRes, Hms.out]; congr 3), rfl⟩
        · go_wp2
          go_ret3
          exact ⟨retV (by rw [hr.out, if_neg (by have := hlen.out; intro h; omega)]; rfl), rfl⟩
  · obtain ⟨q, hq⟩ : ∃ q, q = letters (byt s) := ⟨_, rfl⟩
    have hql : q ≤ s.size := by have := tw_le alpha (byt s); rw [len_byt] at this; rw [hq]; exact this
    have hme : byt (s.extract 0 q) = (byt s).takeWhile alpha := by
      rw [byt_extract, hq]
      simp
      exact take_tw _
    have hf : tnParse (byt s) = if nameOk ((byt s).takeWhile alpha) then some ((byt s).takeWhile alpha, q) else none := by
      cases h : byt s with
      | nil => rfl
      | cons a t =>
        have ha : ¬ a.toNat = 60 := by
          intro h60
          apply hq0
          refine ⟨by rw [← len_byt, h]; simp, ?_⟩
          rw [h]
          simp
          exact UInt8.toNat_inj.1 h60
        simp only [tnParse, if_neg ha]
        rw [hq, h]
        rfl
    have hms : mkS ((byt s).takeWhile alpha) = s.extract 0 q := by rw [← hme, mk_byt]
    have V1 := hide (fun w => V.out (s.extract 0 q) w (by rw [← len_byt, hme]; have := tw_le alpha (byt s); rw [len_byt] at this; unfold maxLen; omega))
    rw [hme] at V1
    rw [← hq] at L
    obtain ⟨r, hr⟩ : ∃ r, r = tnRes (tnParse (byt s)) := ⟨_, rfl⟩
    rw [← hr]
    rw [hf] at hr
    replace hr := hide hr
    have Hms := hide hms
    have hq0' : s.size = 0 ∨ (∃ h : 0 < s.size, ¬ ((s[0]'h).toNat : Int) = 60) := by
      rcases Nat.eq_zero_or_pos s.size with h | h
      · exact .inl h
      · refine .inr ⟨h, fun h60 => hq0 ⟨h, ?_⟩⟩
        rw [← get_byt s 0 h] at h60
        cases hb : byt s with
        | nil => rw [← len_byt, hb] at h; simp at h
        | cons a t =>
          simp [hb] at h60 ⊢
          exact UInt8.toNat_inj.1 (by have : (60 : UInt8).toNat = 60 := rfl; omega)
    generalize nameOk ((byt s).takeWhile alpha) = b at *
    generalize (byt s).takeWhile alpha = u at *
    clear hf hme V hms hq hq0
    have i2 : (q : Int) ≤ (s.size : Int) := by omega
    rcases hq0' with h0 | ⟨h0, h1⟩
    all_goals
      cases b
      all_goals
        go_enter Tryz.func37, Tryz.ntmps37
        go_wp2_with fail
        refine (L.out _).mono ?_
        rintro e w' ⟨rfl, rfl⟩
        go_wp2_with fail
        refine (V1.out _).mono ?_
        rintro e w' ⟨rfl, rfl⟩
        go_wp2
        go_ret3
        exact ⟨retV (by rw [hr.out]; simp [tnRes, Hms.out]; try rfl), rfl⟩
end r7_
end Go.Proofs.YtjeclakdgmjbjaaGreatDoor
