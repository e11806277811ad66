/-
  Texts of mine in one file: Ref9n. Their conditions stand in the theorems.
-/
import Derived.Test.YtbehflfpdkedgaaGreatDoorQ35
namespace Go.Proofs.YtbehflfpdkedgaaGreatDoor
set_option linter.unusedVariables false
set_option linter.unusedSimpArgs false
set_option maxRecDepth 100000
set_option maxHeartbeats 16000000
open Go.ChangeShapes Go.WideShapes Go.ChangeAt Go.RowKit
def numRes (r : Option (Int × Nat)) (i : Nat) : Value :=
 match r with
 | none => .tuple #[.int .i64 (-1), .int .i64 i]
 | some (v, k) => .tuple #[.int .i64 v, .int .i64 ((i : Int) + (k : Int))]
namespace r9_
theorem num (s : ByteArray) (i : Nat) (w : World) (hs : s.size ≤ 1000000) (hi : i ≤ s.size) :
 Calls Tryz.prog 113 #[.string s, .int .i64 i] w fun e w' => e = .returned (numRes (ptNum ((byt s).drop i)) i) ∧ w = w' := by
 obtain ⟨B, hB⟩ : ∃ B, B = (byt s).drop i := ⟨_, rfl⟩
 obtain ⟨n, hn⟩ : ∃ n, n = (B.takeWhile dig).length := ⟨_, rfl⟩
 have hnl : i + n ≤ s.size := by have := tw_le dig B; have := congrArg List.length hB; rw [List.length_drop, len_byt] at this; omega
 have Hdig := hide (show ∀ k, k < n → ∃ (h : i + k < s.size) (y : Int), (s[i + k].toNat : Int) = y ∧ 48 ≤ y ∧ y ≤ 57 ∧ dval (B.take (k + 1)) = 10 * dval (B.take k) + y - 48 by
  intro k hk
  obtain ⟨c, t, h1, h2⟩ := r8_.hdig_tw (B := B) (k := k) (by rw [← hn]; exact hk)
  have h3 : (byt s).drop (i + k) = c :: t := by rw [← List.drop_drop, ← hB]; exact h1
  obtain ⟨h4, h5, _⟩ := drop_cons h3
  have h6 := r8_.dig_bd h2
  refine ⟨h4, _, rfl, by rw [h5]; exact h6.1, by rw [h5]; exact h6.2, ?_⟩
  rw [r8_.take_drop h1, dval_snoc, h5])
 have Hend := hide (show s.size ≤ i + n ∨ ∃ (h : i + n < s.size) (y : Int), (s[i + n].toNat : Int) = y ∧ 0 ≤ y ∧ y ≤ 255 ∧ (y < 48 ∨ (48 ≤ y ∧ 57 < y)) by
  by_cases h : i + n < s.size
  ·refine .inr ⟨h, _, rfl, by omega, by have := s[i + n].toNat_lt; omega, ?_⟩
   have he := r8_.hdig_end B
   rw [← hn] at he
   rcases hd : (byt s).drop (i + n) with _ | ⟨c, t⟩
   ·have := drop_nil hd; omega
   ·obtain ⟨_, h5, _⟩ := drop_cons hd
    have h6 : B.drop n = c :: t := by rw [hB, List.drop_drop]; exact hd
    rw [h6] at he
    rw [h5]
    have : ¬ (48 ≤ (c.toNat : Int) ∧ (c.toNat : Int) ≤ 57) := fun hc => by
     have : dig c = true := by unfold dig; simp [hc.1, hc.2]
     rw [show hdig (c :: t) = dig c from rfl, this] at he
     cases he
    omega
  ·exact .inl (by omega))
 have Hbd := hide (show ∀ k, k ≤ n → k ≤ 3 → 0 ≤ dval (B.take k) ∧ dval (B.take k) ≤ 999 by
  intro k hk h3
  have e : B.take k = (B.takeWhile dig).take k := by rw [← take_tw, List.take_take, ← hn, Nat.min_eq_left hk]
  have := dval_bd k (B.take k) (by simp; omega) (fun c hc => by rw [e] at hc; exact r8_.tw_all' (List.mem_of_mem_take hc)) h3
  exact ⟨this.1, this.2.1⟩)
 have Hdn := hide (show dval (B.take n) = dval (B.takeWhile dig) by rw [hn, take_tw])
 have hfin := hide (show numRes (ptNum B) i = if 1 ≤ n ∧ n ≤ 3 then .tuple #[.int .i64 (dval (B.takeWhile dig)), .int .i64 ((i : Int) + (n : Int))] else .tuple #[.int .i64 (-1), .int .i64 i] by
  unfold ptNum
  rw [← hn]
  split <;> rfl)
 rw [← hB]
 generalize numRes (ptNum B) i = R at *
 generalize dval (B.takeWhile dig) = dv at *
 clear hB hn
 go_enter Tryz.func113, Tryz.ntmps113
 go_wp2
 go_loop [6, 7] (fun a h => ∃ (k : Nat) (v : Int), k ≤ n ∧ a = .int .i64 v ∧ h = .int .i64 ((i : Int) + (k : Int)) ∧ 0 ≤ v ∧ v ≤ 9999 ∧ Hid (k ≤ 3 → v = dval (B.take k))) (fun _ h => i + n + 1 - (intOf h).toNat)
 case atStart => exact ⟨0, 0, by omega, rfl, by go_num, by omega, by omega, hide (fun _ => rfl)⟩
 case round =>
  obtain ⟨k, v, hk, rfl, rfl, hv0, hv1, hv⟩ := hrel
  by_cases hlt : k < n
  ·obtain ⟨hks, y, hy, y0, y1, hdv⟩ := Hdig.out k hlt
   have j1 : (i : Int) + (k : Int) < (s.size : Int) := by omega
   have j2 : (0 : Int) ≤ (i : Int) + (k : Int) := by omega
   by_cases h4 : k < 4
   ·have hv2 : v ≤ 999 := by
     by_cases h3 : k ≤ 3
     ·have := hv.out h3
      have := Hbd.out k (by omega) h3
      omega
     ·omega
    have hn := hide (show k + 1 ≤ 3 → 10 * v + y - 48 = dval (B.take (k + 1)) by intro h; rw [hdv, hv.out (by omega)])
    clear hdv
    go_wp2
    go_round
    case rel => exact ⟨k + 1, _, by omega, rfl, by go_num, by omega, by omega, hn⟩
    case measure => simp [intOf]; omega
   ·have hn := hide (show k + 1 ≤ 3 → v = dval (B.take (k + 1)) by intro h; omega)
    clear hdv
    go_wp2
    go_round
    case rel => exact ⟨k + 1, _, by omega, rfl, by go_num, by omega, by omega, hn⟩
    case measure => simp [intOf]; omega
  ·obtain rfl : k = n := by omega
   have hvd := hide (fun h : k ≤ 3 => (hv.out h).trans Hdn.out)
   have hR := hide (show (R = .tuple #[.int .i64 v, .int .i64 ((i : Int) + (k : Int))] ∧ 1 ≤ k ∧ k ≤ 3) ∨ (R = .tuple #[.int .i64 (-1), .int .i64 i] ∧ (k = 0 ∨ 3 < k)) by
    by_cases h : 1 ≤ k ∧ k ≤ 3
    ·refine .inl ⟨?_, h⟩
     rw [hfin.out, if_pos h, hvd.out h.2]
    ·refine .inr ⟨?_, by omega⟩
     rw [hfin.out, if_neg h])
   clear hvd
   rcases hR.out with ⟨rfl, h1, h3⟩ | ⟨rfl, rfl | h3⟩
   ·have f1 : ((i : Int) + (k : Int) == (i : Int)) = false := by simp; omega
    have f2 : decide ((i : Int) + 3 < (i : Int) + (k : Int)) = false := by simp; omega
    clear hR
    rcases Hend.out with he | ⟨hks, y, hy, y0, y1, he | ⟨he, he'⟩⟩
    all_goals
     go_wp2
     go_ret2
     exact ⟨rfl, rfl⟩
   ·clear hR
    have Hend0 : s.size ≤ i ∨ ∃ (h : i < s.size) (y : Int), (s[i].toNat : Int) = y ∧ 0 ≤ y ∧ y ≤ 255 ∧ (y < 48 ∨ (48 ≤ y ∧ 57 < y)) := Hend.out
    rcases Hend0 with he | ⟨hks, y, hy, y0, y1, he | ⟨he, he'⟩⟩
    all_goals
     go_wp2
     go_ret2
     exact ⟨rfl, rfl⟩
   ·have f1 : ((i : Int) + (k : Int) == (i : Int)) = false := by simp; omega
    have f2 : decide ((i : Int) + 3 < (i : Int) + (k : Int)) = true := by simp; omega
    clear hR
    rcases Hend.out with he | ⟨hks, y, hy, y0, y1, he | ⟨he, he'⟩⟩
    all_goals
     go_wp2
     go_ret2
     exact ⟨rfl, rfl⟩
end r9_
end Go.Proofs.YtbehflfpdkedgaaGreatDoor
