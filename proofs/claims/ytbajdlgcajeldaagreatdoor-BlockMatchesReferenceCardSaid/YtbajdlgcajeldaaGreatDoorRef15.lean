/-
  CONTRACTS OF PACKAGE zoneinforef15 (the reference of layer 15) for time sizes 4 and 8; zoneinforef14.Size. Conditions: at most 1,000,000 bytes or times.
-/
import Derived.Test.YtbajdlgcajeldaaGreatDoorRef1
import Derived.Test.YtbajdlgcajeldaaGreatDoorBlM
import Derived.Test.YtbajdlgcajeldaaGreatDoorBase2
namespace Go.Proofs.YtbajdlgcajeldaaGreatDoor
open Go.ChangeShapes Go.WideShapes Go.ChangeAt Go.RowKit
set_option linter.unusedVariables false
set_option maxRecDepth 100000
theorem elI64 : ElT Tryz.prog 29 2 (.int .i64 0) 8 := ⟨Tryz.underlying29, by kernel_rfl, rfl⟩
namespace r14_
theorem Size (wide : Bool) (w : World) : Calls Tryz.prog 7 #[.bool wide] w fun e w' => e = .returned (.int .i64 (if wide then 8 else 4)) ∧ w = w' := by
  cases wide
  all_goals
    go_enter Tryz.func7, Tryz.ntmps7
    go_wp2
    go_ret
    exact ⟨rfl, rfl⟩
end r14_
namespace r15_
theorem Same (A A' : Option Addr) (n n' c c' : Nat) (l l' : List Int) (w : World) (hn : n ≤ 9223372036854775807) (hn' : n' ≤ 9223372036854775807) (hr : Rd w A n (l.map (Value.int .i64))) (hr' : Rd w A' n' (l'.map (Value.int .i64))) :
    Calls Tryz.prog 33 #[.slice A n c, .slice A' n' c'] w fun e w' => e = .returned (.bool (decide (l = l'))) ∧ Below w.heap.size w w' := by
  have hl : l.length = n := by have := hr.len; simpa using this
  have hl' : l'.length = n' := by have := hr'.len; simpa using this
  obtain ⟨b, hb⟩ : ∃ b, b = decide (l = l') := ⟨_, rfl⟩
  rw [← hb]
  by_cases hnn : n = n'
  rotate_left
  · have : b = false := by rw [hb]; exact decide_eq_false fun h => hnn (by rw [← hl, ← hl', h])
    subst this
    have hne : ((n : Int) != n') = true := by simp; omega
    clear hb hl hl' hr hr'
    go_enter Tryz.func33, Tryz.ntmps33
    go_wp2
    go_ret
    exact ⟨rfl, bl_refl _⟩
  subst hnn
  have HB := hide hb
  have HL := hide hl
  have HL' := hide hl'
  clear hb hl hl'
  go_enter Tryz.func33, Tryz.ntmps33
  go_wp2
  go_loopw [5] (fun i wr => ∃ k : Nat, k ≤ n ∧ i = .int .i64 (k : Nat) ∧ Hid (l.take k = l'.take k) ∧ Below w.heap.size w wr) (fun i _ => n - (intOf i).toNat)
  case atStart => exact ⟨0, by omega, rfl, hide rfl, bl_refl _⟩
  case round =>
    obtain ⟨k, hk, rfl, ht, hw⟩ := hrel
    by_cases hlt : k < n
    · obtain ⟨ad, e1, hc⟩ := (hr.below hw).int hlt
      obtain ⟨ad', e2, hc'⟩ := (hr'.below hw).int hlt
      subst e1 e2
      have x1 : l[k]? = some (l[k]?.getD 0) := by rw [List.getElem?_eq_getElem (by rw [HL.out]; exact hlt)]; rfl
      have x2 : l'[k]? = some (l'[k]?.getD 0) := by rw [List.getElem?_eq_getElem (by rw [HL'.out]; exact hlt)]; rfl
      generalize l[k]?.getD 0 = x at *
      generalize l'[k]?.getD 0 = y at *
      by_cases hxy : x = y
      · subst hxy
        have hs := hide (show l.take (k + 1) = l'.take (k + 1) by rw [List.take_add_one, List.take_add_one, ht.out, x1, x2])
        clear x1 x2
        go_wp2
        go_quiet (fail)
        go_wp2
        go_roundw
        case rel => exact ⟨k + 1, by omega, by go_num, hs, bel_drewN hw _⟩
        case measure => simp [intOf]; omega
      · have hn : (x != y) = true := by simpa using hxy
        have hne : b = false := by
          rw [HB.out]
          exact decide_eq_false (fun h => by rw [h, x2] at x1; injection x1 with x1; exact hxy x1.symm)
        subst hne
        clear x1 x2
        go_wp2
        go_quiet (fail)
        go_wp2
        go_ret
        exact ⟨rfl, bel_drewN hw _⟩
    · obtain rfl : k = n := by omega
      have hne : b = true := by
        rw [HB.out]
        refine decide_eq_true ?_
        have := ht.out
        rwa [List.take_of_length_le (by rw [HL.out]; omega), List.take_of_length_le (by rw [HL'.out]; omega)] at this
      subst hne
      go_wp2
      go_ret
      exact ⟨rfl, hw⟩
theorem Fit (A : Option Addr) (n c : Nat) (l : List Int) (k : Nat) (w : World) (hk : k = 4 ∨ k = 8) (hn : n ≤ 9223372036854775807) (hr : Rd w A n (l.map (Value.int .i64))) (hl64 : ∀ v ∈ l, -9223372036854775808 ≤ v ∧ v < 9223372036854775808) :
    Calls Tryz.prog 43 #[.slice A n c, .int .i64 k] w fun e w' => e = .returned (.bool (fT k l)) ∧ Below w.heap.size w w' := by
  have hl : l.length = n := by have := hr.len; simpa using this
  obtain ⟨d, hd⟩ : ∃ d, d = fT k l := ⟨_, rfl⟩
  rw [← hd]
  have HD := hide hd
  have HL := hide hl
  have H64 := hide hl64
  have F := hide (fun (v : Int) (h : v ∈ l) (w : World) => r1_.Fits v k w (by omega) (hl64 v h).1 (hl64 v h).2)
  clear hd hl hl64 hk
  go_enter Tryz.func43, Tryz.ntmps43
  go_wp2
  go_loopw [5] (fun i wr => ∃ q : Nat, q ≤ n ∧ i = .int .i64 (q : Nat) ∧ Hid ((l.take q).all (fun v => fitsB k v) = true) ∧ Below w.heap.size w wr) (fun i _ => n - (intOf i).toNat)
  case atStart => exact ⟨0, by omega, rfl, hide rfl, bl_refl _⟩
  case round =>
    obtain ⟨q, hq, rfl, ha, hw⟩ := hrel
    by_cases hlt : q < n
    · obtain ⟨ad, e1, hc⟩ := (hr.below hw).int hlt
      subst e1
      have hm : l[q]?.getD 0 ∈ l := by rw [List.getElem?_eq_getElem (by rw [HL.out]; exact hlt)]; exact List.getElem_mem _
      have hst : (l.take (q + 1)).all (fun v => fitsB k v) = ((l.take q).all (fun v => fitsB k v) && fitsB k (l[q]?.getD 0)) := by
        rw [List.take_succ_eq_append_getElem (by rw [HL.out]; exact hlt), List.all_append, List.getElem?_eq_getElem (by rw [HL.out]; exact hlt)]
        simp
      have F1 := hide (F.out _ hm)
      generalize l[q]?.getD 0 = x at *
      rcases hf : fitsB k x with _ | _
      · rw [hf] at F1
        have hne : d = false := by
          rw [HD.out]
          unfold fT
          rw [← Bool.not_eq_true, List.all_eq_true]
          intro h
          have := h x hm
          rw [hf] at this
          cases this
        subst hne
        clear hst hm
        go_wp2_with fail
        refine (F1.out _).mono ?_
        rintro e w' ⟨rfl, rfl⟩
        go_wp2
        go_ret
        exact ⟨rfl, hw⟩
      · rw [hf] at F1
        rw [ha.out, hf] at hst
        have hs := hide (show (l.take (q + 1)).all (fun v => fitsB k v) = true from hst)
        clear hst hm
        go_wp2_with fail
        refine (F1.out _).mono ?_
        rintro e w' ⟨rfl, rfl⟩
        go_wp2
        go_roundw
        case rel => exact ⟨q + 1, by omega, by go_num, hs, hw⟩
        case measure => simp [intOf]; omega
    · obtain rfl : q = n := by omega
      have hne : d = true := by
        rw [HD.out]
        have := ha.out
        rwa [List.take_of_length_le (by rw [HL.out]; omega)] at this
      subst hne
      go_wp2
      go_ret
      exact ⟨rfl, hw⟩
theorem Encode (A : Option Addr) (n c : Nat) (l : List Int) (k : Nat) (w : World) (hk : k = 4 ∨ k = 8) (hn : n ≤ 100000) (hr : Rd w A n (l.map (Value.int .i64))) (hl64 : ∀ v ∈ l, -9223372036854775808 ≤ v ∧ v < 9223372036854775808) :
    Calls Tryz.prog 49 #[.slice A n c, .int .i64 k] w fun e w' => ∃ A' c', e = .returned (.slice A' (k * n) c') ∧ Ow w' w.heap.size 5 A' (k * n) c' ((eT k l).map (Value.int .u8)) ∧ Below w.heap.size w w' := by
  have hl : l.length = n := by have := hr.len; simpa using this
  have HL := hide hl
  have hk8 : k ≤ 8 := by omega
  have hk1 : 1 ≤ k := by omega
  have P := hide (fun A n c l' v w h1 h2 h3 h4 h5 => r1_.Append A n c l' k v w (by omega) h1 h2 h3 h4 h5)
  clear hl hl64 hk
  go_enter Tryz.func49, Tryz.ntmps49
  go_wp2
  go_loopw [5, 6] (fun o i wr => ∃ (q : Nat) (A' : Option Addr) (c' : Nat), q ≤ n ∧ i = .int .i64 (q : Nat) ∧ o = .slice A' (k * q) c' ∧ Hid (Ow wr w.heap.size 5 A' (k * q) c' ((eT k (l.take q)).map (Value.int .u8))) ∧ Hid (Below w.heap.size w wr)) (fun _ i _ => n - (intOf i).toNat)
  case atStart => exact ⟨0, none, 0, by omega, rfl, rfl, hide (Ow.nil (Nat.le_refl _) _), hide (bl_refl _)⟩
  case round =>
    obtain ⟨q, A', c', hq, rfl, rfl, ho, hw⟩ := hrel
    by_cases hlt : q < n
    · obtain ⟨ad, e1, hc⟩ := (hr.below hw.out).int hlt
      subst e1
      have hst := hide (eT_step k l q (by rw [HL.out]; exact hlt))
      have hu := u64_bd (l[q]?.getD 0)
      have hcv : ∀ w : World, (convert 2 56 (.int .i64 (l[q]?.getD 0))).run Tryz.prog w = .ok (.int .u64 (u64 (l[q]?.getD 0))) w := fun w => by simp [go_sem, u64, IntKind.wrap_u64]
      generalize l[q]?.getD 0 = x at *
      have hkq : k * q ≤ 800000 := Nat.le_trans (Nat.mul_le_mul hk8 (Nat.le_of_lt hlt)) (by omega)
      have e8 : k * (q + 1) = k * q + k := by rw [Nat.mul_add]; omega
      have C := hide (P.out A' (k * q) c' (eT k (l.take q)) (u64 x) wr (by omega) ho.out.nilcap ho.out.rd hu.1 hu.2)
      have hs := hide hw.out.size
      clear ho hu
      generalize k * q = kq at *
      go_wp2_with fail
      refine C.out.mono ?_
      rintro e w1 ⟨A2, c2, rfl, o2, h2⟩
      rw [Int.toNat_natCast, ← hst.out] at o2
      have o3 := hide (o2.mono hs.out)
      replace hw := hide (bel_next hw.out h2)
      clear o2 h2
      go_wp2
      go_roundw
      case rel => exact ⟨q + 1, A2, c2, by omega, by go_num, by rw [e8], by rw [e8]; exact o3, hw⟩
      case measure => simp [intOf]; omega
    · obtain rfl : q = n := by omega
      go_wp2
      go_ret
      have := ho.out
      rw [List.take_of_length_le (by rw [HL.out]; omega)] at this
      exact ⟨_, _, rfl, this, hw.out⟩
theorem Decode (A : Option Addr) (n c m : Nat) (l : List Int) (k : Nat) (w : World) (hk : k = 4 ∨ k = 8) (hn : n ≤ 1000000) (hm : n = m * k) (hA : A = none → n = 0 ∧ c = 0) (hc : n ≤ c) (hcm : c ≤ 9223372036854775807) (hr : Rd w A n (l.map (Value.int .u8))) (hl : Bytes l) :
    Calls Tryz.prog 29 #[.slice A n c, .int .i64 k] w fun e w' => ∃ A' c', e = .returned (.slice A' m c') ∧ Ow w' w.heap.size 2 A' m c' ((dT k l m).map (Value.int .i64)) ∧ Below w.heap.size w w' := by
  have hlen : l.length = n := by have := hr.len; simpa using this
  have HL := hide hlen
  have hk8 : k ≤ 8 := by omega
  have hk1 : 1 ≤ k := by omega
  have hkz : ((k : Int) == 0) = false := by simp; omega
  have hq : (n : Int).tdiv (k : Int) = (m : Int) := by
    rw [hm, Int.natCast_mul, Int.mul_tdiv_cancel _ (by omega)]
  have HB := hide hl
  have HM := hide hm
  have mn : m ≤ n := by rw [hm]; exact Nat.le_mul_of_pos_right m (by omega)
  have I := hide (fun (A : Option Addr) (c : Nat) (f : List Int) (w : World) (h1 : Rd w A k (f.map (Value.int .u8))) (h2 : Bytes f) => r1_.Int_yes A k c f 0 k w (by omega) (by omega) (by omega) (by omega) h1 h2)
  clear hlen hl hk hm
  go_enter Tryz.func29, Tryz.ntmps29
  go_wp2
  go_loopw [5, 6] (fun o i wr => ∃ (q : Nat) (A' : Option Addr) (c' : Nat), q ≤ m ∧ i = .int .i64 (q : Nat) ∧ o = .slice A' q c' ∧ Hid (Ow wr w.heap.size 2 A' q c' ((dT k l q).map (Value.int .i64))) ∧ Hid (Below w.heap.size w wr)) (fun _ i _ => m - (intOf i).toNat)
  case atStart => exact ⟨0, none, 0, by omega, rfl, rfl, hide (Ow.nil (Nat.le_refl _) _), hide (bl_refl _)⟩
  case round =>
    obtain ⟨q, A', c', hqm, rfl, rfl, ho, hw⟩ := hrel
    by_cases hlt : q < m
    · obtain ⟨P, hP⟩ : ∃ P : Nat, P = q * k := ⟨_, rfl⟩
      have hPn : P + k ≤ n := by
        have := Nat.mul_le_mul_right k (show q + 1 ≤ m by omega)
        rw [Nat.add_mul, Nat.one_mul, ← hP, ← HM.out] at this
        exact this
      have i1 : IntKind.i64.wrap ((q : Int) * (k : Int)) = (P : Int) := by rw [← Int.natCast_mul, ← hP, IntKind.wrap_i64]; omega
      have i2 : IntKind.i64.wrap (((q : Int) + 1) * (k : Int)) = (P : Int) + k := by
        rw [show ((q : Int) + 1) * (k : Int) = ((P + k : Nat) : Int) by rw [hP, Int.add_mul, Int.one_mul]; simp, IntKind.wrap_i64]; omega
      have hst := hide (dT_step k l q)
      have ht := hide (show tAt k l q = sgn k (uval (fld l P k)) by unfold tAt; rw [hP])
      have hcut := ((hr.below hw.out).cut (k := P) (cap := c) (by omega) hc).take (k := k) (by omega)
      rw [← List.map_drop, ← List.map_take, if_neg (show ¬ c = P by omega)] at hcut
      replace hcut := hide hcut
      have hfb := hide (fld_bytes HB.out P k)
      clear hP
      go_wp2_with fail
      refine (I.out _ _ _ _ hcut.out hfb.out).mono ?_
      rintro e w1 ⟨rfl, rfl⟩
      rw [show fld (List.take k (List.drop P l)) (0 : Int).toNat (k : Int).toNat = fld l P k by simp [fld, List.take_take], ← ht.out]
      generalize tAt k l q = x at *
      have ho2 := ho.out
      have hb2 := hw.out
      have hs := hide hw.out.size
      clear hcut hfb i1 i2 I
      go_wp2_with (at_builtin; refine ap1 elI64 ho2 hb2 (by have := hs.out; omega) (.tmp 31) (.tmp 33) (.int .i64 x) rfl rfl rfl rfl rfl (by simp [maxLen]; omega) (by omega) ?_; intro A2 c2 w2 ho3 hb3)
      have ho4 := hide (show Ow w2 w.heap.size 2 A2 (q + 1) c2 ((dT k l (q + 1)).map (Value.int .i64)) by rw [hst.out, List.map_append]; exact ho3)
      replace hb3 := hide hb3
      clear ho3 ho2 hb2
      go_roundw
      case rel => exact ⟨q + 1, A2, c2, by omega, by go_num, rfl, ho4, hb3⟩
      case measure => simp [intOf]; omega
    · obtain rfl : q = m := by omega
      go_wp2
      go_ret
      exact ⟨_, _, rfl, ho.out, hw.out⟩
theorem DecodeK (A : Option Addr) (n c m : Nat) (l : List Int) (k : Nat) (K : Int) (w : World) (hK : K = (k : Int)) (hk : k = 4 ∨ k = 8) (hn : n ≤ 1000000) (hm : n = m * k) (hA : A = none → n = 0 ∧ c = 0) (hc : n ≤ c) (hcm : c ≤ 9223372036854775807) (hr : Rd w A n (l.map (Value.int .u8))) (hl : Bytes l) :
    Calls Tryz.prog 29 #[.slice A n c, .int .i64 K] w fun e w' => ∃ A' c', e = .returned (.slice A' m c') ∧ Ow w' w.heap.size 2 A' m c' ((dT k l m).map (Value.int .i64)) ∧ Below w.heap.size w w' := by
  subst hK
  exact Decode A n c m l k w hk hn hm hA hc hcm hr hl
theorem EncodeK (A : Option Addr) (n c m : Nat) (l : List Int) (k : Nat) (K : Int) (w : World) (hK : K = (k : Int)) (hk : k = 4 ∨ k = 8) (hn : n ≤ 100000) (hm : m = k * n) (hA : A = none → n = 0 ∧ c = 0) (hr : Rd w A n (l.map (Value.int .i64))) (hl64 : ∀ v ∈ l, -9223372036854775808 ≤ v ∧ v < 9223372036854775808) :
    Calls Tryz.prog 49 #[.slice A n c, .int .i64 K] w fun e w' => ∃ A' c', e = .returned (.slice A' m c') ∧ Ow w' w.heap.size 5 A' m c' ((eT k l).map (Value.int .u8)) ∧ Below w.heap.size w w' := by
  subst hK hm
  exact Encode A n c l k w hk hn hr hl64
theorem FitK (A : Option Addr) (n c : Nat) (l : List Int) (k : Nat) (K : Int) (w : World) (hK : K = (k : Int)) (hk : k = 4 ∨ k = 8) (hn : n ≤ 9223372036854775807) (hA : A = none → n = 0 ∧ c = 0) (hr : Rd w A n (l.map (Value.int .i64))) (hl64 : ∀ v ∈ l, -9223372036854775808 ≤ v ∧ v < 9223372036854775808) :
    Calls Tryz.prog 43 #[.slice A n c, .int .i64 K] w fun e w' => e = .returned (.bool (fT k l)) ∧ Below w.heap.size w w' := by
  subst hK
  exact Fit A n c l k w hk (by omega) hr hl64
end r15_
end Go.Proofs.YtbajdlgcajeldaaGreatDoor
