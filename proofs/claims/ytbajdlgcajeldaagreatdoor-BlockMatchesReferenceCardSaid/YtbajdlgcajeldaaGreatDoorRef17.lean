/-
  CONTRACTS OF PACKAGE zoneinforef17 (the reference of layer 17) for time sizes 4 and 8, and zoneinforef14.Size. Conditions: at most 100,000 bytes or records.
-/
import Derived.Test.YtbajdlgcajeldaaGreatDoorRef1
import Derived.Test.YtbajdlgcajeldaaGreatDoorRow4
import Derived.Test.YtbajdlgcajeldaaGreatDoorBlM
import Derived.Test.YtbajdlgcajeldaaGreatDoorOwk
import Derived.Deep.RegionHeld3
import Derived.Deep.DeepCutAuto
import Derived.Deep.RegionLaw
namespace Go.Proofs.YtbajdlgcajeldaaGreatDoor
open Go.ChangeShapes Go.WideShapes Go.ChangeAt Go.RowKit
set_option linter.unusedVariables false
set_option maxRecDepth 100000
theorem elLP : ElS Tryz.prog 31 78 2 16 := ⟨Tryz.underlying31, .agg #[.int .i64 0, .int .i32 0], by kernel_rfl, rfl⟩
/-- the two cells of the i-th record. -/
theorem Rk.lp {w : World} {A : Option Addr} {n : Nat} {ts : List LP} (h : Rk 2 w A n (lcs ts)) {i : Nat} (hi : i < n) : ∃ ad t, A = some ad ∧ ts[i]? = some t ∧ w.cell? (ad.add (i * 2)) = some (.int .i64 t.1) ∧ w.cell? ⟨(ad.add (i * 2)).block, (ad.add (i * 2)).off + 1, none⟩ = some (.int .i32 t.2) := by
  have hl : ts.length = n := by have := h.len; rw [lcs_len] at this; omega
  obtain ⟨ad, e, hc⟩ := h.2 (by omega)
  have ht : ts[i]? = some (ts[i]'(by omega)) := List.getElem?_eq_getElem (by omega)
  have g := lcs_get ht
  have h1 := hc _ _ g.2
  rw [← addr_add] at h1
  exact ⟨ad, _, e, ht, hc _ _ g.1, h1⟩
namespace r17_
theorem Size14 (wide : Bool) (w : World) : Calls Tryz.prog 7 #[.bool wide] w fun e w' => e = .returned (.int .i64 (if wide then 8 else 4)) ∧ w = w' := by
  cases wide
  all_goals
    go_enter Tryz.func7, Tryz.ntmps7
    go_wp2
    go_ret
    exact ⟨rfl, rfl⟩
theorem lp_ne (t u : LP) (w : World) : (binOp .neq 78 (.agg #[.int .i64 t.1, .int .i32 t.2]) (.agg #[.int .i64 u.1, .int .i32 u.2])).run Tryz.prog w = .ok (.bool (!decide (t = u))) w := by
  obtain ⟨a, b⟩ := t
  obtain ⟨a', b'⟩ := u
  simp only [Prod.mk.injEq]
  by_cases h1 : a = a' <;> by_cases h2 : b = b' <;> simp [go_sem, h1, h2]
set_option maxHeartbeats 1000000 in
theorem Same (A A' : Option Addr) (n n' c c' : Nat) (l l' : List LP) (w : World) (hn : n ≤ 9223372036854775807) (hn' : n' ≤ 9223372036854775807) (hr : Rk 2 w A n (lcs l)) (hr' : Rk 2 w A' n' (lcs l')) :
    Calls Tryz.prog 35 #[.slice A n c, .slice A' n' c'] w fun e w' => e = .returned (.bool (decide (l = l'))) ∧ Below w.heap.size w w' := by
  have hl : l.length = n := by have := hr.len; rw [lcs_len] at this; omega
  have hl' : l'.length = n' := by have := hr'.len; rw [lcs_len] at this; omega
  obtain ⟨b, hb⟩ : ∃ b, b = decide (l = l') := ⟨_, rfl⟩
  rw [← hb]
  by_cases hnn : n = n'
  rotate_left
  · have : b = false := by rw [hb]; exact decide_eq_false fun h => hnn (by rw [← hl, ← hl', h])
    subst this
    have hne : ((n : Int) != n') = true := by simp; omega
    clear hb hl hl' hr hr'
    go_enter Tryz.func35, Tryz.ntmps35
    go_wp2
    go_ret
    exact ⟨rfl, bl_refl _⟩
  subst hnn
  have HB := hide hb
  have HL := hide hl
  have HL' := hide hl'
  clear hb hl hl'
  go_enter Tryz.func35, Tryz.ntmps35
  go_wp2
  go_loopw [5] (fun i wr => ∃ k : Nat, k ≤ n ∧ i = .int .i64 (k : Nat) ∧ Hid (l.take k = l'.take k) ∧ Hid (Below w.heap.size w wr)) (fun i _ => n - (intOf i).toNat)
  case atStart => exact ⟨0, by omega, rfl, hide rfl, hide (bl_refl _)⟩
  case round =>
    obtain ⟨k, hk, rfl, ht, hw⟩ := hrel
    by_cases hlt : k < n
    · obtain ⟨ad, t, e1, x1, f0, f1⟩ := (hr.below hw.out).lp hlt
      obtain ⟨ad', u, e2, x2, g0, g1⟩ := (hr'.below hw.out).lp hlt
      subst e1 e2
      have hq := fun w => lp_ne t u w
      by_cases hxy : t = u
      · have hs := hide (show l.take (k + 1) = l'.take (k + 1) by rw [List.take_add_one, List.take_add_one, ht.out, x1, x2, hxy])
        rw [decide_eq_true hxy] at hq
        clear x1 x2 hxy
        go_wp2
        go_quiet (fail)
        go_wp2
        go_roundw
        case rel => exact ⟨k + 1, by omega, by go_num, hs, hide (bel_drewN hw.out _)⟩
        case measure => simp [intOf]; omega
      · have hne : b = false := by
          rw [HB.out]
          exact decide_eq_false (fun h => by rw [h, x2] at x1; injection x1 with x1; exact hxy x1.symm)
        subst hne
        rw [decide_eq_false hxy] at hq
        clear x1 x2 hxy
        go_wp2
        go_quiet (fail)
        go_wp2
        go_ret
        exact ⟨rfl, bel_drewN hw.out _⟩
    · obtain rfl : k = n := by omega
      have hne : b = true := by
        rw [HB.out]
        refine decide_eq_true ?_
        have := ht.out
        rwa [List.take_of_length_le (by rw [HL.out]; omega), List.take_of_length_le (by rw [HL'.out]; omega)] at this
      subst hne
      go_wp2
      go_ret
      exact ⟨rfl, hw.out⟩
set_option maxHeartbeats 2000000 in
theorem Encode (A : Option Addr) (n c : Nat) (ts : List LP) (k : Nat) (w : World) (hk : k = 4 ∨ k = 8) (hn : n ≤ 10000) (hr : Rk 2 w A n (lcs ts)) (hok : ∀ t ∈ ts, lpOk t) :
    Calls Tryz.prog 51 #[.slice A n c, .int .i64 k] w fun e w' => ∃ A' c', e = .returned (.slice A' (n * (k + 4)) c') ∧ Ow w' w.heap.size 5 A' (n * (k + 4)) c' ((eLP k ts).map (Value.int .u8)) ∧ Below w.heap.size w w' := by
  have hl : ts.length = n := by have := hr.len; rw [lcs_len] at this; omega
  have HL := hide hl
  have HO := hide hok
  have hk8 : k + 4 ≤ 12 := by omega
  have P := hide (fun A n c l' v w h1 h2 h3 h4 h5 => r1_.Append A n c l' k v w (by omega) h1 h2 h3 h4 h5)
  have P4 := hide (fun A n c l' v w h1 h2 h3 h4 h5 => r1_.Append A n c l' 4 v w (by omega) h1 h2 h3 h4 h5)
  clear hl hok hk
  go_enter Tryz.func51, Tryz.ntmps51
  go_wp2
  go_loopw [5, 6] (fun o i wr => ∃ (q : Nat) (A' : Option Addr) (c' : Nat), q ≤ n ∧ i = .int .i64 (q : Nat) ∧ o = .slice A' (q * (k + 4)) c' ∧ Hid (Ow wr w.heap.size 5 A' (q * (k + 4)) c' ((eLP k (ts.take q)).map (Value.int .u8))) ∧ Hid (Below w.heap.size w wr)) (fun _ i _ => n - (intOf i).toNat)
  case atStart => exact ⟨0, none, 0, by omega, rfl, by simp, hide (by simpa [eLP] using Ow.nil (Nat.le_refl _) _), hide (bl_refl _)⟩
  case round =>
    obtain ⟨q, A', c', hq, rfl, rfl, ho, hw⟩ := hrel
    by_cases hlt : q < n
    · obtain ⟨ad, u, rfl, hu, f0, f1⟩ := (hr.below hw.out).lp hlt
      obtain ⟨z2, z3, z0, z1⟩ := HO.out _ (List.mem_of_getElem? hu)
      have hst := hide (eLP_step k ts q u hu)
      have u1 := u64_bd u.1
      have u2 := u64_bd u.2
      have hcv : ∀ w : World, (convert 2 56 (.int .i64 u.1)).run Tryz.prog w = .ok (.int .u64 (u64 u.1)) w := fun w => by simp [go_sem, u64, IntKind.wrap_u64]
      have hcw : ∀ w : World, (convert 21 2 (.int .i32 u.2)).run Tryz.prog w = .ok (.int .i64 u.2) w := fun w => by simp [go_sem]; rw [IntKind.wrap_i64]; omega
      have hcx : ∀ w : World, (convert 2 56 (.int .i64 u.2)).run Tryz.prog w = .ok (.int .u64 (u64 u.2)) w := fun w => by simp [go_sem, u64, IntKind.wrap_u64]
      have hkq : q * (k + 4) ≤ 120000 := Nat.le_trans (Nat.mul_le_mul (Nat.le_of_lt hlt) hk8) (by omega)
      have e8 : (q + 1) * (k + 4) = q * (k + 4) + k + 4 := by rw [Nat.add_mul]; omega
      have C := hide (P.out A' (q * (k + 4)) c' (eLP k (ts.take q)) (u64 u.1) wr (by omega) ho.out.nilcap ho.out.rd u1.1 u1.2)
      have hs := hide hw.out.size
      clear ho u1 hu
      generalize q * (k + 4) = kq at *
      go_wp2_with fail
      refine C.out.mono ?_
      rintro e w1 ⟨A2, c2, rfl, o2, h2⟩
      rw [Int.toNat_natCast] at o2
      have g0 := cellE h2 f0
      have g1 := cellE h2 f1
      have o3 := hide (o2.mono hs.out)
      replace hw := hide (bel_next hw.out h2)
      have hs2 := hide hw.out.size
      have C2 := hide (P4.out A2 (kq + k) c2 (eLP k (ts.take q) ++ be k (u64 u.1)) (u64 u.2) w1 (by omega) o3.out.nilcap o3.out.rd u2.1 u2.2)
      clear o2 h2 C f0 f1 o3
      go_wp2_with fail
      refine C2.out.mono ?_
      rintro e w2 ⟨A3, c3, rfl, o2, h2⟩
      rw [show (4 : Int).toNat = 4 from rfl, ← hst.out] at o2
      have o3 := hide (o2.mono hs2.out)
      replace hw := hide (bel_next hw.out h2)
      clear o2 h2 C2 g0 g1
      go_wp2
      go_roundw
      case rel => exact ⟨q + 1, A3, c3, by omega, by go_num, by rw [e8], by rw [e8]; exact o3, hw⟩
      case measure => simp [intOf]; omega
    · obtain rfl : q = n := by omega
      go_wp2
      go_ret
      have := ho.out
      rw [List.take_of_length_le (by rw [HL.out]; omega)] at this
      exact ⟨_, _, rfl, this, hw.out⟩
theorem EncodeK (A : Option Addr) (n c m : Nat) (ts : List LP) (k : Nat) (K : Int) (w : World) (hK : K = (k : Int)) (hk : k = 4 ∨ k = 8) (hn : n ≤ 10000) (hm : m = n * (k + 4)) (hr : Rk 2 w A n (lcs ts)) (hok : ∀ t ∈ ts, lpOk t) :
    Calls Tryz.prog 51 #[.slice A n c, .int .i64 K] w fun e w' => ∃ A' c', e = .returned (.slice A' m c') ∧ Ow w' w.heap.size 5 A' m c' ((eLP k ts).map (Value.int .u8)) ∧ Below w.heap.size w w' := by
  subst hK hm
  exact Encode A n c ts k w hk hn hr hok
set_option maxHeartbeats 4000000 in
theorem Decode (A : Option Addr) (n c m : Nat) (l : List Int) (k : Nat) (w : World) (hk : k = 4 ∨ k = 8) (hn : n ≤ 100000) (hm : n = m * (k + 4)) (hA : A = none → n = 0 ∧ c = 0) (hc : n ≤ c) (hcm : c ≤ 9223372036854775807) (hr : Rd w A n (l.map (Value.int .u8))) (hl : Bytes l) :
    Calls Tryz.prog 31 #[.slice A n c, .int .i64 k] w fun e w' => ∃ A' c', e = .returned (.slice A' m c') ∧ Ok 2 w' w.heap.size 78 A' m c' (lcs (dLP k l m)) ∧ Below w.heap.size w w' := by
  have hlen : l.length = n := by have := hr.len; simpa using this
  have HL := hide hlen
  have HB := hide hl
  have HM := hide hm
  have HK := hide hk
  have hk8 : k + 4 ≤ 12 := by omega
  obtain ⟨N, hN⟩ : ∃ N : Nat, N = k + 4 := ⟨_, rfl⟩
  have iN : IntKind.i64.wrap ((k : Int) + 4) = (N : Int) := by rw [IntKind.wrap_i64]; omega
  have hNz : ((N : Int) == 0) = false := by simp; omega
  have hq : (n : Int).tdiv (N : Int) = (m : Int) := by
    rw [hm, ← hN, Int.natCast_mul, Int.mul_tdiv_cancel _ (by omega)]
  have mn : m ≤ n := by rw [hm]; exact Nat.le_mul_of_pos_right m (by omega)
  have I := hide (fun (off : Nat) (w : World) (h1 : Rd w A n (l.map (Value.int .u8))) (h2 : off + k ≤ n) => r1_.Int_yes A n c l off k w (by omega) (by omega) (by omega) (by omega) h1 hl)
  have I4 := hide (fun (off : Nat) (w : World) (h1 : Rd w A n (l.map (Value.int .u8))) (h2 : off + 4 ≤ n) => r1_.Int_yes A n c l off 4 w (by omega) (by omega) (by omega) (by omega) h1 hl)
  have hN1 : 1 ≤ N := by omega
  replace hN := hide hN
  clear hlen hl hm hk
  go_enter Tryz.func31, Tryz.ntmps31
  go_wp2
  go_loopw [5, 7] (fun o i wr => ∃ (q : Nat) (A' : Option Addr) (c' : Nat), q ≤ m ∧ i = .int .i64 (q : Nat) ∧ o = .slice A' q c' ∧ Hid (Ok 2 wr w.heap.size 78 A' q c' (lcs (dLP k l q))) ∧ Hid (Below w.heap.size w wr)) (fun _ i _ => m - (intOf i).toNat)
  case atStart => exact ⟨0, none, 0, by omega, rfl, rfl, hide (Ok.nil (Nat.le_refl _) _ _), hide (bl_refl _)⟩
  case round =>
    obtain ⟨q, A', c', hqm, rfl, rfl, ho, hw⟩ := hrel
    by_cases hlt : q < m
    · obtain ⟨P, hP⟩ : ∃ P : Nat, P = q * (k + 4) := ⟨_, rfl⟩
      obtain ⟨P2, hP2⟩ : ∃ P2 : Nat, P2 = P + k := ⟨_, rfl⟩
      have hPn : P2 + 4 ≤ n := by
        have := Nat.mul_le_mul_right (k + 4) (show q + 1 ≤ m by omega)
        rw [Nat.add_mul, Nat.one_mul, ← hP, ← HM.out] at this
        omega
      have i1 : IntKind.i64.wrap ((q : Int) * (N : Int)) = (P : Int) := by rw [← Int.natCast_mul, hN.out, ← hP, IntKind.wrap_i64]; omega
      have i2 : IntKind.i64.wrap ((P : Int) + (k : Int)) = (P2 : Int) := by rw [IntKind.wrap_i64]; omega
      have hst := hide (dLP_step k l q)
      have hok := dL_ok HK.out l HB.out q (by rw [HL.out, ← hP]; omega)
      have hdl : dL k l q = (sgn k (uval (fld l P k)), sgn 4 (uval (fld l P2 4))) := by unfold dL; rw [hP2, hP]
      have C := hide (I.out P wr (hr.below hw.out) (by omega))
      have C4 := hide (fun wr h => I4.out P2 wr h (by omega))
      rw [Int.toNat_natCast, Int.toNat_natCast] at C
      simp only [Int.toNat_natCast, show (4 : Int).toNat = 4 from rfl] at C4
      rw [hdl] at hst hok
      generalize sgn k (uval (fld l P k)) = x at *
      generalize sgn 4 (uval (fld l P2 4)) = y at *
      obtain ⟨⟨z0, z1, z2, z3⟩, _⟩ := hok
      dsimp only at z0 z1 z2 z3
      have hcv : ∀ w : World, (convert 2 21 (.int .i64 y)).run Tryz.prog w = .ok (.int .i32 y) w := fun w => by simp [go_sem]; rw [IntKind.wrap_i32]; omega
      have hrw := hide (hr.below hw.out)
      clear hdl hP hP2 hA
      go_wp2_with fail
      refine C.out.mono ?_
      rintro e w1 ⟨rfl, rfl⟩
      go_wp2_with fail
      refine (C4.out _ hrw.out).mono ?_
      rintro e w1 ⟨rfl, rfl⟩
      have hoL := hide ((ho.out.alloc (.cells #[.int .i64 x, .int .i32 y] 78)))
      have hwL := hide ((bl_alloc hw.out (.cells #[.int .i64 x, .int .i32 y] 78)))
      have hrL := hide (show Rk 2 (wr.alloc (.cells #[.int .i64 x, .int .i32 y] 78)) (some ⟨wr.heap.size, 0, none⟩) 1 (lc (x, y)) from (Ok.lit 2 wr 78 (lc (x, y)) 1 rfl (by simp [maxLen])).rd)
      have h1L := hide (lcs_cells [(x, y)])
      rw [lcs_one] at h1L
      have x1 := hide (show q + 1 ≤ maxLen by simp [maxLen]; omega)
      have x2 := hide (show (q + 1) * 16 ≤ 140737488355328 by omega)
      clear C C4 hrw i1 i2
      go_wp2_with (at_builtin; refine apK elLP (by decide) hoL.out hwL.out (Nat.le_refl _) hrL.out (.tmp 41) (.tmp 46) rfl rfl rfl rfl (fun h => by cases h) h1L.out x1.out x2.out ?_; intro A9 c9 w9 ho9 h9 _; replace ho9 := hide ho9; replace h9 := hide h9)
      have ho10 := hide (show Ok 2 w9 w.heap.size 78 A9 (q + 1) c9 (lcs (dLP k l (q + 1))) by rw [hst.out, lcs_app, lcs_one]; exact ho9.out)
      clear ho9
      go_roundw
      case rel => exact ⟨q + 1, A9, c9, by omega, by go_num, rfl, ho10, h9⟩
      case measure => simp [intOf]; omega
    · obtain rfl : q = m := by omega
      go_wp2
      go_ret
      exact ⟨_, _, rfl, ho.out, hw.out⟩
theorem DecodeK (A : Option Addr) (n c m : Nat) (l : List Int) (k : Nat) (K : Int) (w : World) (hK : K = (k : Int)) (hk : k = 4 ∨ k = 8) (hn : n ≤ 100000) (hm : n = m * (k + 4)) (hA : A = none → n = 0 ∧ c = 0) (hc : n ≤ c) (hcm : c ≤ 9223372036854775807) (hr : Rd w A n (l.map (Value.int .u8))) (hl : Bytes l) :
    Calls Tryz.prog 31 #[.slice A n c, .int .i64 K] w fun e w' => ∃ A' c', e = .returned (.slice A' m c') ∧ Ok 2 w' w.heap.size 78 A' m c' (lcs (dLP k l m)) ∧ Below w.heap.size w w' := by
  subst hK
  exact Decode A n c m l k w hk hn hm hA hc hcm hr hl
end r17_
end Go.Proofs.YtbajdlgcajeldaaGreatDoor
