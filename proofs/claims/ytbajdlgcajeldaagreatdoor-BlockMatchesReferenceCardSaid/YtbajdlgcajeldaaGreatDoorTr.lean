/-
  CONTRACTS OF PACKAGE transitions, of the code that landed at 4625a2c: isTimeSize, Fit, Encode, Decode. Conditions: a time size of 4 or 8; at most 1,000,000 bytes or times (Encode: 100,000).
-/
import Derived.Test.YtbajdlgcajeldaaGreatDoorBlM
import Derived.Test.YtbajdlgcajeldaaGreatDoorBase2
import Derived.Test.YtbajdlgcajeldaaGreatDoorBe
import Derived.Test.YtbajdlgcajeldaaGreatDoorTrD
namespace Go.Proofs.YtbajdlgcajeldaaGreatDoor
open Go.ChangeShapes Go.WideShapes Go.ChangeAt Go.RowKit
set_option linter.unusedVariables false
set_option maxRecDepth 100000
namespace tr_
theorem elI64 : ElT Tryz.prog 29 2 (.int .i64 0) 8 := ⟨Tryz.underlying29, by kernel_rfl, rfl⟩
theorem isTimeSize (k : Nat) (w : World) (hk : k = 4 ∨ k = 8) : Calls Tryz.prog 64 #[.int .i64 (k : Int)] w fun e w' => e = .returned (.bool true) ∧ w = w' := by
  rcases hk with rfl | rfl
  all_goals
    go_enter Tryz.func64, Tryz.ntmps64
    go_wp2
    go_ret
    exact ⟨rfl, rfl⟩
theorem Encode (A : Option Addr) (n c m : Nat) (l : List Int) (k : Nat) (K : Int) (w : World) (hK : K = (k : Int)) (hk : k = 4 ∨ k = 8) (hn : n ≤ 100000) (hm : m = k * n) (hA : A = none → n = 0 ∧ c = 0) (hr : Rd w A n (l.map (Value.int .i64))) (hl64 : ∀ v ∈ l, -9223372036854775808 ≤ v ∧ v < 9223372036854775808) :
    Calls Tryz.prog 45 #[.slice A n c, .int .i64 K] w fun e w' => ∃ A' c', e = .returned (.slice A' m c') ∧ Ow w' w.heap.size 5 A' m c' ((eT k l).map (Value.int .u8)) ∧ Below w.heap.size w w' := by
  subst hK hm
  have hl : l.length = n := by have := hr.len; simpa using this
  have HL := hide hl
  have hk8 : k ≤ 8 := by omega
  have hk1 : 1 ≤ k := by omega
  have P := hide (fun v w h4 h5 => be_.Append none 0 0 [] k v w (by omega) (by omega) (Rd.none_ w) h4 h5)
  have T := hide (fun w => isTimeSize k w hk)
  clear hl hl64 hk
  have hkn : k * n ≤ 800000 := Nat.le_trans (Nat.mul_le_mul hk8 hn) (by omega)
  obtain ⟨m, hmd⟩ : ∃ m, m = k * n := ⟨_, rfl⟩
  rw [← hmd] at hkn ⊢
  have i0 : IntKind.i64.wrap ((n : Int) * (k : Int)) = (m : Int) := by rw [show (n : Int) * (k : Int) = (m : Int) by rw [hmd, Int.natCast_mul, Int.mul_comm], IntKind.wrap_i64]; omega
  have HM := hide hmd
  clear hmd
  go_enter Tryz.func45, Tryz.ntmps45
  go_wp2_with (first
    | (go_at_call 64; refine (T.out _).mono ?_; rintro e w' ⟨rfl, rfl⟩)
    | (refine mk (n := 0) (k := m) elU8 (Below.refl w.heap.size _) (Nat.le_refl _) (Nat.le_refl _) rfl (.const (.int .i64 0)) (.tmp 14) rfl .i64 .i64 _ _ rfl rfl rfl rfl (by omega) (by omega) (by simp [maxLen]; omega) ?_; intro w1 ho1 hb1))
  go_loopw [5, 18] (fun o i wr => ∃ (q : Nat) (A' : Option Addr) (c' : Nat), q ≤ n ∧ i = .int .i64 (q : Nat) ∧ o = .slice A' (k * q) c' ∧ Hid (Ow wr w.heap.size 5 A' (k * q) c' ((eT k (l.take q)).map (Value.int .u8))) ∧ Hid (Below w.heap.size w wr)) (fun _ i _ => n - (intOf i).toNat)
  case atStart => exact ⟨0, _, _, by omega, rfl, rfl, hide ho1, hide hb1⟩
  case round =>
    clear ho1 hb1
    obtain ⟨q, A', c', hq, rfl, rfl, ho, hw⟩ := hrel
    by_cases hlt : q < n
    · obtain ⟨ad, e1, hc⟩ := (hr.below hw.out).int hlt
      subst e1
      have hst := hide (eT_step k l q (by rw [HL.out]; exact hlt))
      have hu := u64_bd (l[q]?.getD 0)
      have hcv : ∀ w : World, (convert 2 56 (.int .i64 (l[q]?.getD 0))).run Tryz.prog w = .ok (.int .u64 (u64 (l[q]?.getD 0))) w := fun w => by simp [go_sem, u64, IntKind.wrap_u64]
      generalize l[q]?.getD 0 = x at *
      have hkq : k * q ≤ 800000 := Nat.le_trans (Nat.mul_le_mul hk8 (Nat.le_of_lt hlt)) (by omega)
      have e8 : k * (q + 1) = k * q + k := by rw [Nat.mul_add]; omega
      have C := hide (P.out (u64 x) wr hu.1 hu.2)
      have hs := hide hw.out.size
      clear hu
      generalize k * q = kq at *
      go_wp2_with fail
      refine C.out.mono ?_
      rintro e w1 ⟨A2, c2, rfl, o2, h2⟩
      rw [Int.toNat_natCast, Nat.zero_add] at o2 ⊢
      rw [List.nil_append] at o2
      have ho2 := ho.out.below h2
      have hw2 := bel_next hw.out h2
      have hr2 := o2.rd
      have hn2 := o2.nilcap
      have h1c := hide (oneCells .u8 (be k (u64 x)))
      clear o2 h2 ho hw
      go_wp2_with (at_builtin; refine apA elU8 ho2 hw2 (Nat.le_refl _) hr2 (.tmp 22) (.tmp 26) rfl rfl rfl rfl hn2 h1c.out (by simp [maxLen]; omega) (by omega) ?_; intro A3 c3 w3 ho3 hb3 hg3)
      rw [← List.map_append, ← hst.out, ← e8] at ho3
      replace ho3 := hide ho3
      replace hb3 := hide hb3
      clear hg3 ho2 hw2 hr2 hn2
      rw [← e8]
      go_roundw
      case rel => exact ⟨q + 1, A3, c3, by omega, by go_num, rfl, ho3, hb3⟩
      case measure => simp [intOf]; omega
    · obtain rfl : q = n := by omega
      go_wp2
      go_ret
      have := ho.out
      rw [List.take_of_length_le (by rw [HL.out]; omega)] at this
      rw [HM.out]
      exact ⟨_, _, rfl, this, hw.out⟩
/-- the row of times while it is filled: done before q, nothing behind. -/
def rowT (k : Nat) (l : List Int) (m q : Nat) : List Int := dT k l q ++ List.replicate (m - q) 0
theorem rowT_len (k : Nat) (l : List Int) {m q : Nat} (h : q ≤ m) : (rowT k l m q).length = m := by unfold rowT; rw [List.length_append, dT_len, List.length_replicate]; omega
theorem rowT_at (k : Nat) (l : List Int) {m q : Nat} (h : q < m) : (rowT k l m q)[q]? = some 0 := by
  unfold rowT
  rw [List.getElem?_append_right (by rw [dT_len]; omega), dT_len, Nat.sub_self, List.getElem?_replicate, if_pos (by omega)]
theorem rowT_set (k : Nat) (l : List Int) {m q : Nat} (h : q < m) : (rowT k l m q).set q (tAt k l q) = rowT k l m (q + 1) := by
  unfold rowT
  obtain ⟨d, hd⟩ : ∃ d, m - q = d + 1 := ⟨m - q - 1, by omega⟩
  rw [hd, show m - (q + 1) = d by omega, List.set_append_right _ _ (by rw [dT_len]; omega), dT_len, Nat.sub_self, List.replicate_succ, List.set_cons_zero, dT_step, List.append_assoc]
  rfl
theorem Decode (A : Option Addr) (n c m : Nat) (l : List Int) (k : Nat) (K : Int) (w : World) (hK : K = (k : Int)) (hk : k = 4 ∨ k = 8) (hn : n ≤ 1000000) (hm : n = m * k) (hA : A = none → n = 0 ∧ c = 0) (hc : n ≤ c) (hcm : c ≤ 9223372036854775807) (hr : Rd w A n (l.map (Value.int .u8))) (hl : Bytes l) :
    Calls Tryz.prog 58 #[.slice A n c, .int .i64 K] w fun e w' => ∃ A' c', e = .returned (.slice A' m c') ∧ Ow w' w.heap.size 2 A' m c' ((dT k l m).map (Value.int .i64)) ∧ Below w.heap.size w w' := by
  subst hK
  have hlen : l.length = n := by have := hr.len; simpa using this
  have HL := hide hlen
  have hk8 : k ≤ 8 := by omega
  have hk1 : 1 ≤ k := by omega
  have hkz : ((k : Int) == 0) = false := by simp; omega
  have hq : (n : Int).tdiv (k : Int) = (m : Int) := by
    rw [hm, Int.natCast_mul, Int.mul_tdiv_cancel _ (by omega)]
  have HB := hide hl
  have HM := hide hm
  have mn : m ≤ n := by rw [hm]; exact Nat.le_mul_of_pos_right m (by omega)
  have T := hide (fun w => isTimeSize k w hk)
  have I := hide (fun (q : Nat) (w : World) (h1 : (q : Int) + k ≤ n) (h2 : Rd w A n (l.map (Value.int .u8))) => be_.Int_yes A n c l q k w (by omega) (by omega) (by omega) h1 h2 hl)
  clear hlen hl hk hm
  have im : IntKind.i64.wrap (m : Int) = (m : Int) := by rw [IntKind.wrap_i64]; omega
  go_enter Tryz.func58, Tryz.ntmps58
  go_wp2_with (first
    | (go_at_call 64; refine (T.out _).mono ?_; rintro e w' ⟨rfl, rfl⟩)
    | (refine mk (n := m) (k := m) tr_.elI64 (Below.refl w.heap.size _) (Nat.le_refl _) (Nat.le_refl _) rfl (.tmp 13) (.tmp 13) rfl .i64 .i64 _ _ rfl rfl rfl rfl (Nat.le_refl _) (by omega) (by simp [maxLen]; omega) ?_; intro w1 ho1 hb1))
  have h0 : (List.replicate m (Value.int .i64 0)) = (rowT k l m 0).map (Value.int .i64) := by simp [rowT, dT]
  rw [h0] at ho1
  clear h0
  go_loopw [17] (fun i wr => ∃ (q : Nat), q ≤ m ∧ i = .int .i64 (q : Nat) ∧ Hid (Ow wr w.heap.size 2 (some ⟨w.heap.size, 0, none⟩) m m ((rowT k l m q).map (Value.int .i64))) ∧ Hid (Below w.heap.size w wr)) (fun i _ => m - (intOf i).toNat)
  case atStart => exact ⟨0, by omega, rfl, hide ho1, hide hb1⟩
  case round =>
    clear ho1 hb1
    obtain ⟨q, hqm, rfl, ho, hw⟩ := hrel
    by_cases hlt : q < m
    · obtain ⟨P, hP⟩ : ∃ P : Nat, P = q * k := ⟨_, rfl⟩
      have hPn : P + k ≤ n := by
        have := Nat.mul_le_mul_right k (show q + 1 ≤ m by omega)
        rw [Nat.add_mul, Nat.one_mul, ← hP, ← HM.out] at this
        exact this
      have i1 : IntKind.i64.wrap ((q : Int) * (k : Int)) = (P : Int) := by rw [← Int.natCast_mul, ← hP, IntKind.wrap_i64]; omega
      have ht := hide (show sgn k (uval (fld l P k)) = tAt k l q by unfold tAt; rw [hP])
      have C := hide (I.out P wr (by omega) (hr.below hw.out))
      have hset := ho.out.set q (.int .i64 (tAt k l q))
      rw [← List.map_set, rowT_set k l hlt] at hset
      have hcl := ho.out.cell q hlt
      rw [List.getElem?_map, rowT_at k l hlt, Option.map_some] at hcl
      have hfr := ho.out.frozen q
      have hbs := hide (bl_set (g := w.heap.size) (o := q) hw.out (Nat.le_refl _) (.int .i64 (tAt k l q)))
      replace hset := hide hset
      generalize tAt k l q = x at *
      clear hP ho hw
      go_wp2_with fail
      refine C.out.mono ?_
      rintro e w1 ⟨rfl, rfl⟩
      simp only [Int.toNat_natCast]
      rw [ht.out]
      go_wp2
      go_roundw
      case rel => exact ⟨q + 1, by omega, by go_num, hset, hbs⟩
      case measure => simp [intOf]; omega
    · obtain rfl : q = m := by omega
      have e0 : rowT k l q q = dT k l q := by simp [rowT]
      have := ho.out
      rw [e0] at this
      go_wp2
      go_ret
      exact ⟨_, _, rfl, this, hw.out⟩
end tr_
end Go.Proofs.YtbajdlgcajeldaaGreatDoor
