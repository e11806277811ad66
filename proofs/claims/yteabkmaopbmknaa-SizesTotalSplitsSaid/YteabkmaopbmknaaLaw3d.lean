/-
  THE WALKS OF THE LAWS OF LAYER 3 (zoneinfolaw03): SizesTotalSplits. No conditions.
-/
import Derived.Test.YteabkmaopbmknaaLaw3e
namespace Go.Proofs.Yteabkmaopbmknaa
open Go.ChangeShapes Go.WideShapes Go.ChangeAt Go.RowKit
set_option linter.unusedVariables false

theorem app_mem {p : Int → Prop} {xs ys : List Int} (h1 : ∀ x ∈ xs, p x) (h2 : ∀ x ∈ ys, p x) : ∀ x ∈ xs ++ ys, p x := fun x h => (List.mem_append.1 h).elim (h1 x) (h2 x)
namespace l3_
set_option maxRecDepth 100000 in
set_option maxHeartbeats 4000000 in
theorem splits_ (a0 : Option Addr) (len0 cap0 : Nat) (z0 : List Int) (a1 : Option Addr) (len1 cap1 : Nat) (z1 : List Int) (a2 : Option Addr) (len2 cap2 : Nat) (z2 : List Int) (a3 : Option Addr) (len3 cap3 : Nat) (z3 : List Int) (w : World)
    (w0 : IsRw .u16 w a0 len0 cap0 z0) (w1 : IsRw .u16 w a1 len1 cap1 z1) (w2 : IsRw .u8 w a2 len2 cap2 z2) (w3 : IsRw .u64 w a3 len3 cap3 z3) :
    Calls Try.prog 6 #[.slice a0 len0 cap0, .slice a1 len1 cap1, .slice a2 len2 cap2, .slice a3 len3 cap3] w fun e w' => e = .returned (.bool true) ∧ Below w.heap.size w w' := by
  obtain ⟨c1, c2⟩ := w0.cap
  obtain ⟨c3, c4⟩ := w1.cap
  obtain ⟨c5, c6⟩ := w2.cap
  obtain ⟨c7, c8⟩ := w3.cap
  have hx := bnd (by decide) (fun x h => wf_u16 (w0.wf x h))
  have hy := bnd (by decide) (fun x h => wf_u16 (w1.wf x h))
  have hz := bnd (by decide) (fun x h => wf_u8 (w2.wf x h))
  have hs := wordsOf w3
  have hxm := hide (fun x h => wf_u16 (w0.wf x h))
  have hym := hide (fun x h => wf_u16 (w1.wf x h))
  have hzm := hide (fun x h => wf_u8 (w2.wf x h))
  have hsm := hide (fun x h => wf_u64 (w3.wf x h))
  have rx := w0.rd
  have ry := w1.rd
  have rz := w2.rd
  have rs := w3.rd
  have hnil := hide w3.nil
  clear w0 w1 w2 w3
  generalize z0.take len0 = xs at *
  generalize z1.take len1 = ys at *
  generalize z2.take len2 = zs at *
  generalize z3.take len3 = ss at *
  by_cases hbig : 50 < len0 ∨ 50 < len1 ∨ len2 < len0 + len1 ∨ 200 < len2 ∨ 50 < len3
  · exact splits0 _ _ _ _ _ _ _ _ _ _ _ _ _ (by omega)
  have k0 : len0 ≤ 50 := by omega
  have k1 : len1 ≤ 50 := by omega
  have k2 : len0 + len1 ≤ len2 := by omega
  have k3 : len2 ≤ 200 := by omega
  have k4 : len3 ≤ 50 := by omega
  clear hbig
  have lx := hide (show xs.length = len0 by simpa using rx.len)
  have ly := hide (show ys.length = len1 by simpa using ry.len)
  have lz := hide (show zs.length = len2 by simpa using rz.len)
  have ls := hide (show ss.length = len3 by simpa using rs.len)
  go_enter Try.func6, Try.ntmps6
  go_wp2_with fail
  refine (awake _).mono ?_
  rintro e w1 ⟨rfl, hb1⟩
  replace rx := rx.below hb1
  replace ry := ry.below hb1
  replace rz := rz.below hb1
  replace rs := rs.below hb1
  have hb1 := hide hb1
  go_wp2_with fail
  go_loopw [9, 11, 13] (fun x v i wr => ∃ (k : Nat) (A1 : Option Addr) (c1 : Nat) (A2 : Option Addr) (c2 : Nat), k ≤ len0 ∧ i = .int .i64 k ∧ x = .slice A1 k c1 ∧ v = .slice A2 k c2 ∧ Hid (Ow wr w1.heap.size 22 A1 k c1 ((xs.take k).map (Value.int .u64)) ∧ Ow wr w1.heap.size 22 A2 k c2 ((zs.take k).map (Value.int .u64)) ∧ Dj A1 A2 ∧ Below w1.heap.size w1 wr)) (fun _ _ i _ => len0 - (intOf i).toNat)
  case atStart => exact ⟨0, none, 0, none, 0, by omega, rfl, rfl, rfl, hide ⟨by simpa using Ow.nil (Nat.le_refl _) _, by simpa using Ow.nil (Nat.le_refl _) _, Dj.none_ _, Below.refl _ _⟩⟩
  case round =>
    obtain ⟨k, A1, d1, A2, d2, hk, rfl, rfl, rfl, hrel⟩ := hrel
    by_cases hlt : k < len0
    · obtain ⟨ho1, ho2, hdj, hb⟩ := hrel.out
      have hkz : k < len2 := by omega
      obtain ⟨ad, rfl, hcx⟩ := rx.int (i := k) hlt
      obtain ⟨ad', rfl, hcz⟩ := rz.int (i := k) hkz
      obtain ⟨x0, x1⟩ := hx k
      obtain ⟨y0, y1⟩ := hz k
      have sx := hide (take_snoc .u64 xs k (by rw [lx.out]; exact hlt))
      have sz := hide (take_snoc .u64 zs k (by rw [lz.out]; exact hkz))
      generalize xs[k]?.getD 0 = x at *
      generalize zs[k]?.getD 0 = z at *
      have hc := cellE hb hcx
      have hcz := hide hcz
      clear hcx
      have hdj := hide hdj.symm
      clear hrel
      go_wp2_with (first
        | (at_builtin; refine ap1A elU64 ho1 hb (Nat.le_refl _) (.tmp 64) (.tmp 70) _ rfl rfl rfl rfl rfl (by simp [maxLen]; omega) (by omega) ?_; intro A3 e3 w3 ho3 hb3 hg3; rw [sx.out] at ho3; have ho2' := hg3.ow (ho2.alloc _) hdj.out; have hdj' := hide (hg3.dj (ho2.alloc _) hdj.out).symm; clear hg3; have hc' := cellE hb3 hcz.out; have ho3 := hide ho3)
        | (at_builtin; refine ap1A elU64 ho2' hb3 (Nat.le_refl _) (.tmp 72) (.tmp 78) _ rfl rfl rfl rfl rfl (by simp [maxLen]; omega) (by omega) ?_; intro A4 e4 w4 ho4 hb4 hg4; rw [sz.out] at ho4; have hr4 := hide (And.intro (hg4.ow (ho3.out.alloc _) hdj'.out) (And.intro ho4 (And.intro (hg4.dj (ho3.out.alloc _) hdj'.out) hb4))); clear hg4))
      go_roundw
      case rel => exact ⟨k + 1, A3, e3, A4, e4, by omega, by go_num, rfl, rfl, hr4⟩
      case measure => simp [intOf]; omega
    · obtain rfl : k = len0 := by omega
      obtain ⟨ho1, ho2, hdj, hb⟩ := hrel.out
      rw [List.take_of_length_le (by rw [lx.out]; omega)] at ho1
      have hn1 := hide ho1.nilcap
      have hn2 := hide ho2.nilcap
      have ho1 := hide ho1
      have ho2 := hide ho2
      have ry2 := ry.below hb
      have rz2 := rz.below hb
      have rs2 := hide (rs.below hb)
      have hb2 := hide (bel_next hb1.out hb)
      clear hrel hdj ry rz rs rx hb
      go_wp2_with fail
      go_loopw [10, 12, 14] (fun x v i wq => ∃ (j : Nat) (A3 : Option Addr) (c3 : Nat) (A4 : Option Addr) (c4 : Nat), j ≤ len1 ∧ i = .int .i64 j ∧ x = .slice A3 j c3 ∧ v = .slice A4 j c4 ∧ Hid (Ow wq wr.heap.size 22 A3 j c3 ((ys.take j).map (Value.int .u64)) ∧ Ow wq wr.heap.size 22 A4 j c4 (((zs.drop k).take j).map (Value.int .u64)) ∧ Dj A3 A4 ∧ Below wr.heap.size wr wq)) (fun _ _ i _ => len1 - (intOf i).toNat)
      case atStart => exact ⟨0, none, 0, none, 0, by omega, rfl, rfl, rfl, hide ⟨by simpa using Ow.nil (Nat.le_refl _) _, by simpa using Ow.nil (Nat.le_refl _) _, Dj.none_ _, Below.refl _ _⟩⟩
      case round =>
        obtain ⟨j, A3, d3, A4, d4, hj, rfl, rfl, rfl, hrel⟩ := hrel
        by_cases hlt : j < len1
        · obtain ⟨ho3, ho4, hdj, hb⟩ := hrel.out
          have hkz : k + j < len2 := by omega
          obtain ⟨ad, rfl, hcx⟩ := ry2.int (i := j) hlt
          obtain ⟨ad', rfl, hcz⟩ := rz2.int (i := k + j) hkz
          obtain ⟨x0, x1⟩ := hy j
          obtain ⟨y0, y1⟩ := hz (k + j)
          have sx := hide (take_snoc .u64 ys j (by rw [ly.out]; exact hlt))
          have sz := hide (take_snoc .u64 (zs.drop k) j (by rw [List.length_drop, lz.out]; omega))
          rw [List.getElem?_drop] at sz
          generalize ys[j]?.getD 0 = x at *
          generalize zs[k + j]?.getD 0 = z at *
          have hc := cellE hb hcx
          have hcz := hide hcz
          clear hcx
          have hdj := hide hdj.symm
          clear hrel
          go_wp2_with (first
            | (at_builtin; refine ap1A elU64 ho3 hb (Nat.le_refl _) (.tmp 86) (.tmp 92) _ rfl rfl rfl rfl rfl (by simp [maxLen]; omega) (by omega) ?_; intro A5 e5 w5 ho5 hb5 hg5; rw [sx.out] at ho5; have ho4' := hg5.ow (ho4.alloc _) hdj.out; have hdj' := hide (hg5.dj (ho4.alloc _) hdj.out).symm; clear hg5; have hc' := cellE hb5 hcz.out; have ho5 := hide ho5)
            | (at_builtin; refine ap1A elU64 ho4' hb5 (Nat.le_refl _) (.tmp 94) (.tmp 103) _ rfl rfl rfl rfl rfl (by simp [maxLen]; omega) (by omega) ?_; intro A6 e6 w6 ho6 hb6 hg6; rw [sz.out] at ho6; have hr6 := hide (And.intro (hg6.ow (ho5.out.alloc _) hdj'.out) (And.intro ho6 (And.intro (hg6.dj (ho5.out.alloc _) hdj'.out) hb6))); clear hg6))
          go_roundw
          case rel => exact ⟨j + 1, A5, e5, A6, e6, by omega, by go_num, rfl, rfl, hr6⟩
          case measure => simp [intOf]; omega
        · obtain rfl : j = len1 := by omega
          obtain ⟨ho3, ho4, hdj, hb⟩ := hrel.out
          rw [List.take_of_length_le (by rw [ly.out]; omega)] at ho3
          have hn3 := hide ho3.nilcap
          have hn4 := hide ho4.nilcap
          have R1 := hide (ho1.out.below hb).rd
          have R2 := hide (ho2.out.below hb).rd
          have R3 := hide ho3.rd
          have R4 := hide ho4.rd
          have R5 := hide (rs2.out.below hb)
          have hb3 := hide (bel_next hb2.out hb)
          clear hrel hdj ry2 rz2 rs2 hb ho1 ho2 ho3 ho4 hb1 hb2
          have hxw : ∀ x ∈ xs, 0 ≤ x ∧ x < 18446744073709551616 := fun x h => by have := hxm.out x h; omega
          have hyw : ∀ x ∈ ys, 0 ≤ x ∧ x < 18446744073709551616 := fun x h => by have := hym.out x h; omega
          have hzw : ∀ x ∈ zs, 0 ≤ x ∧ x < 18446744073709551616 := fun x h => by have := hzm.out x h; omega
          have hvm : ∀ x ∈ (zs.drop k).take j, x ∈ zs := fun x h => List.mem_of_mem_drop (List.mem_of_mem_take h)
          have hlw : (zs.take k).length = k := by rw [List.length_take, lz.out]; omega
          have hlv : ((zs.drop k).take j).length = j := by rw [List.length_take, List.length_drop, lz.out]; omega
          have b1 := tot_bd hx (bnd (by decide) (fun x h => hzm.out x (List.mem_of_mem_take h))) (ys := zs.take k) k
          have b2 := tot_bd hy (bnd (by decide) (fun x h => hzm.out x (hvm x h))) (ys := (zs.drop k).take j) j
          have W1 := hide (words_of_mem hxw)
          have W2 := hide (words_of_mem fun x h => hzw x (List.mem_of_mem_take h) : Words (zs.take k))
          have W3 := hide (words_of_mem hyw)
          have W4 := hide (words_of_mem fun x h => hzw x (hvm x h) : Words ((zs.drop k).take j))
          have W5 := hide (words_of_mem (app_mem hxw hyw))
          have W6 := hide (words_of_mem (app_mem (fun x h => hzw x (List.mem_of_mem_take h)) (fun x h => hzw x (hvm x h))) : Words (zs.take k ++ (zs.drop k).take j))
          have W7 := hide (words_of_mem (app_mem hxw (ys := [0]) (by simp)))
          have W8 := hide (words_of_mem (app_mem (fun x h => hzw x (List.mem_of_mem_take h)) (ys := [9]) (by simp)) : Words (zs.take k ++ [9]))
          have W9 := hide (words_of_mem (app_mem (fun x h => hzw x (List.mem_of_mem_take h)) hsm.out) : Words (zs.take k ++ ss))
          have E1 := hide (tot_app xs (zs.take k) ys ((zs.drop k).take j) k j lx.out hlw)
          have E2 := hide (show tot (xs ++ [0]) (zs.take k ++ [9]) (k + 1) = tot xs (zs.take k) k by rw [tot_app xs _ _ _ k 1 lx.out hlw]; simp [tot])
          have E3 := hide (show tot xs (zs.take k ++ ss) k = tot xs (zs.take k) k by have := tot_left xs (zs.take k) [] ss k (by rw [lx.out]; omega) (by omega); simpa using this)
          clear hxm hym hzm hsm hx hy hz hs hxw hyw hzw hvm hlw hlv
          have O1 := hide (oneCells .u64 xs)
          have O2 := hide (oneCells .u64 (zs.take k))
          have O3 := hide (oneCells .u64 ys)
          have O4 := hide (oneCells .u64 ((zs.drop k).take j))
          have O5 := hide (oneCells .u64 ss)
          clear lx ly lz ls
          generalize zs.take k = vs at *
          generalize (zs.drop k).take j = us at *
          obtain ⟨b1, b1'⟩ := b1
          obtain ⟨b2, b2'⟩ := b2
          obtain ⟨s, hs1⟩ : ∃ s, s = tot xs vs k := ⟨_, rfl⟩
          obtain ⟨t, ht1⟩ : ∃ t, t = tot ys us j := ⟨_, rfl⟩
          rw [← hs1] at b1 b1' E1 E2 E3
          rw [← ht1] at b2 b2' E1
          have hs1 := hide hs1
          have ht1 := hide ht1
          go_wp2_with fail
          refine (sz_.Total _ _ _ _ _ _ xs vs _ s true _ (by omega) (by omega) R1.out R2.out W1.out W2.out (by omega) (by omega) (.y (by rw [Nat.min_self]; exact hs1.out.symm) (by omega))).mono ?_
          rintro e w4 ⟨rfl, hb⟩
          replace R1 := hide (R1.out.below hb)
          replace R2 := hide (R2.out.below hb)
          replace R3 := hide (R3.out.below hb)
          replace R4 := hide (R4.out.below hb)
          replace R5 := hide (R5.out.below hb)
          have hb4 := hide (bel_next hb3.out hb)
          clear hb hb3
          go_wp2_with fail
          refine (sz_.Total _ _ _ _ _ _ ys us _ t true _ (by omega) (by omega) R3.out R4.out W3.out W4.out (by omega) (by omega) (.y (by rw [Nat.min_self]; exact ht1.out.symm) (by omega))).mono ?_
          rintro e w5 ⟨rfl, hb⟩
          replace R1 := hide (R1.out.below hb)
          replace R2 := hide (R2.out.below hb)
          replace R3 := hide (R3.out.below hb)
          replace R4 := hide (R4.out.below hb)
          replace R5 := hide (R5.out.below hb)
          have hb5 := hide (bel_next hb4.out hb)
          clear hb hb4
          go_wp2_with (first
            | (at_builtin; refine ap0 elU64 R1.out (.tmp 118) (.tmp 119) rfl rfl rfl rfl hn1.out O1.out (by simp [maxLen]; omega) (by omega) ?_; intro A5 e5 x5 ho5 hb5')
            | (at_builtin; refine apA elU64 ho5 hb5' (Nat.le_refl _) (R3.out.below hb5') (.tmp 120) (.tmp 121) rfl rfl rfl rfl hn3.out O3.out (by simp [maxLen]; omega) (by omega) ?_; intro A6 e6 x6 ho6 hb6' _; rw [← List.map_append] at ho6; have ho6 := hide ho6; have S2 := hide (R2.out.below hb6'); have S4 := hide (R4.out.below hb6'); have hb6' := hide hb6'; clear ho5 hb5')
            | (at_builtin; refine ap0 elU64 S2.out (.tmp 123) (.tmp 124) rfl rfl rfl rfl hn2.out O2.out (by simp [maxLen]; omega) (by omega) ?_; intro A7 e7 x7 ho7 hb7')
            | (at_builtin; refine apA elU64 ho7 hb7' (Nat.le_refl _) (S4.out.below hb7') (.tmp 125) (.tmp 126) rfl rfl rfl rfl hn4.out O4.out (by simp [maxLen]; omega) (by omega) ?_; intro A8 e8 x8 ho8 hb8' _; rw [← List.map_append] at ho8; have ho8 := hide ho8; have hb8' := hide hb8'; clear ho7 hb7'))
          refine (sz_.Total _ _ _ _ _ _ (xs ++ ys) (vs ++ us) _ (s + t) true _ (by omega) (by omega) (ho6.out.below hb8'.out).rd ho8.out.rd W5.out W6.out (by omega) (by omega) (.y (by rw [Nat.min_self]; exact E1.out) (by omega))).mono ?_
          rintro e w9 ⟨rfl, hb⟩
          have hb := bel_next hb6'.out (bel_next hb8'.out hb)
          replace R1 := hide (R1.out.below hb)
          replace R2 := hide (R2.out.below hb)
          replace R5 := hide (R5.out.below hb)
          have hb9 := hide (bel_next hb5.out hb)
          clear hb hb5 hb6' hb8' ho6 ho8 R3 R4 S2 S4
          go_wp2_with (first
            | (at_builtin; refine ap0 elU64 R1.out (.tmp 132) (.tmp 133) rfl rfl rfl rfl hn1.out O1.out (by simp [maxLen]; omega) (by omega) ?_; intro A5 e5 x5 ho5 hb5')
            | (at_builtin; refine ap1A elU64 ho5 hb5' (Nat.le_refl _) (.tmp 134) (.tmp 135) (.int .u64 0) rfl rfl rfl rfl rfl (by simp [maxLen]; omega) (by omega) ?_; intro A6 e6 x6 ho6 hb6' _; have ho6 := hide (show Ow x6 _ _ _ _ _ ((xs ++ [0]).map (Value.int .u64)) by rw [List.map_append]; exact ho6); have S2 := hide (R2.out.below hb6'); have hb6' := hide hb6'; clear ho5 hb5')
            | (at_builtin; refine ap0 elU64 S2.out (.tmp 137) (.tmp 138) rfl rfl rfl rfl hn2.out O2.out (by simp [maxLen]; omega) (by omega) ?_; intro A7 e7 x7 ho7 hb7')
            | (at_builtin; refine ap1A elU64 ho7 hb7' (Nat.le_refl _) (.tmp 139) (.tmp 140) (.int .u64 9) rfl rfl rfl rfl rfl (by simp [maxLen]; omega) (by omega) ?_; intro A8 e8 x8 ho8 hb8' _; have ho8 := hide (show Ow x8 _ _ _ _ _ ((vs ++ [9]).map (Value.int .u64)) by rw [List.map_append]; exact ho8); have hb8' := hide hb8'; clear ho7 hb7'))
          refine (sz_.Total _ _ _ _ _ _ (xs ++ [0]) (vs ++ [9]) _ s true _ (by omega) (by omega) (ho6.out.below hb8'.out).rd ho8.out.rd W7.out W8.out (by omega) (by omega) (.y (by rw [Nat.min_self]; exact E2.out) (by omega))).mono ?_
          rintro e w10 ⟨rfl, hb⟩
          have hb := bel_next hb6'.out (bel_next hb8'.out hb)
          replace R1 := hide (R1.out.below hb)
          replace R2 := hide (R2.out.below hb)
          replace R5 := hide (R5.out.below hb)
          have hb10 := hide (bel_next hb9.out hb)
          clear hb hb9 hb6' hb8' ho6 ho8 S2
          go_wp2_with (first
            | (at_builtin; refine ap0 elU64 R2.out (.tmp 147) (.tmp 148) rfl rfl rfl rfl hn2.out O2.out (by simp [maxLen]; omega) (by omega) ?_; intro A5 e5 x5 ho5 hb5')
            | (at_builtin; refine apA elU64 ho5 hb5' (Nat.le_refl _) (R5.out.below hb5') (.tmp 149) (.tmp 150) rfl rfl rfl rfl hnil.out O5.out (by simp [maxLen]; omega) (by omega) ?_; intro A6 e6 x6 ho6 hb6' _; rw [← List.map_append] at ho6; have ho6 := hide ho6; have hb6' := hide hb6'; clear ho5 hb5'))
          refine (sz_.Total _ _ _ _ _ _ xs (vs ++ ss) _ s true _ (by omega) (by omega) (R1.out.below hb6'.out) ho6.out.rd W1.out W9.out (by omega) (by omega) (.y (by rw [Nat.min_eq_left (by omega)]; exact E3.out) (by omega))).mono ?_
          rintro e w11 ⟨rfl, hb⟩
          have hfin := hide (bel_next hb10.out (bel_next hb6'.out hb))
          go_wp2
          go_ret
          exact ⟨rfl, hfin.out⟩
end l3_
end Go.Proofs.Yteabkmaopbmknaa
