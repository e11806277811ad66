/-
  Texts of mine in one file: Hp. Their conditions stand in the theorems.
-/
import Derived.Test.YtbehflfpdkedgaaGreatDoorQ07
import Derived.Test.YtbehflfpdkedgaaGreatDoorQ16
import Derived.Deep.RegionHeld3
import Derived.Deep.DeepCutAuto
namespace Go.Proofs.YtbehflfpdkedgaaGreatDoor
set_option linter.unusedVariables false
set_option linter.unusedSimpArgs false
set_option maxRecDepth 100000
set_option maxHeartbeats 16000000
open Go.ChangeShapes Go.WideShapes Go.ChangeAt Go.RowKit
def sgnH (l : List UInt8) : Nat := match l with | [] => 0 | c :: _ => if (c.toNat : Int) = 43 ∨ (c.toNat : Int) = 45 then 1 else 0
namespace hm_
theorem signSize (s : ByteArray) (w : World) (hs : s.size ≤ 1000000) : Calls Tryz.prog 143 #[.string s] w fun e w' => e = .returned (.int .i64 (sgnH (byt s))) ∧ w = w' := by
 cases h : byt s with
 | nil =>
   have e : s = ⟨#[]⟩ := by rw [← byt_inj, h]
   subst e
   go_enter Tryz.func143, Tryz.ntmps143
   go_wp2
   go_ret
   exact ⟨rfl, rfl⟩
 | cons c t =>
   obtain ⟨hi, hc, _⟩ := drop_cons (s := s) (i := 0) (c := c) (t := t) (by rw [h]; rfl)
   obtain ⟨x, hx⟩ : ∃ x : Int, (c.toNat : Int) = x := ⟨_, rfl⟩
   have hf := hide (show sgnH (c :: t) = if x = 43 ∨ x = 45 then 1 else 0 by show (if (c.toNat : Int) = 43 ∨ (c.toNat : Int) = 45 then 1 else 0) = _; rw [hx])
   rw [hf.out]
   rw [← hc] at hx
   have hne : ¬ s = ⟨#[]⟩ := by rintro rfl; exact absurd hi (by decide)
   have hne2 := seq_ne hne
   have hne3 : s.toList.isEmpty = false := by
    rcases q : s.toList with _ | _
    ·rw [q, show (⟨#[]⟩ : ByteArray).toList = [] by simp] at hne2; exact absurd hne2 (by decide)
    ·rfl
   clear hne hne2
   clear h hc
   rcases (show x = 43 ∨ x = 45 ∨ ((x == 43) = false ∧ (x == 45) = false) by by_cases a : x = 43 <;> by_cases b : x = 45 <;> simp [a, b]) with rfl | rfl | ⟨h4, h5⟩
   ·go_enter Tryz.func143, Tryz.ntmps143
    go_wp2
    go_ret
    exact ⟨rfl, rfl⟩
   ·go_enter Tryz.func143, Tryz.ntmps143
    go_wp2
    go_ret
    exact ⟨rfl, rfl⟩
   ·have hno : ¬ (x = 43 ∨ x = 45) := by simp at h4 h5; omega
    rw [if_neg hno]
    clear hno
    go_enter Tryz.func143, Tryz.ntmps143
    go_wp2
    go_ret
    exact ⟨rfl, rfl⟩
theorem countDigits (s : ByteArray) (w : World) (hs : s.size ≤ 1000000) : Calls Tryz.prog 144 #[.string s] w fun e w' => e = .returned (.int .i64 ((byt s).takeWhile dig).length) ∧ w = w' := by
 obtain ⟨n, hn, hle, hin, hout⟩ := pre_facts dig s
 rw [hn]
 have H1 := hide hin
 have H2 := hide hout
 clear hn hin hout
 go_enter Tryz.func144, Tryz.ntmps144
 go_wp2
 go_loop [3] (fun v => ∃ k : Nat, k ≤ n ∧ v = .int .i64 k) (fun v => n + 1 - (intOf v).toNat)
 case atStart => exact ⟨0, Nat.zero_le _, rfl⟩
 case round =>
  obtain ⟨k, hk, rfl⟩ := hrel
  by_cases hlt : k < n
  ·have hks : k < s.size := by omega
   obtain ⟨y0, y1⟩ := r8_.dig_bd (H1.out k hks hlt)
   go_wp2
   go_round
   case rel => exact ⟨k + 1, by omega, by go_num⟩
   case measure => simp [intOf]; omega
  ·obtain rfl : k = n := by omega
   have hend : s.size ≤ k ∨ (∃ h : k < s.size, ((s[k]'h).toNat : Int) < 48 ∨ 57 < ((s[k]'h).toNat : Int)) := by
    rcases Nat.lt_or_ge k s.size with h | h
    ·refine .inr ⟨h, ?_⟩
     have := H2.out h
     unfold dig at this
     simp at this
     omega
    ·exact .inl h
   rcases hend with he | ⟨he, he | he⟩
   all_goals
    go_wp2
    go_ret
    exact ⟨rfl, rfl⟩
theorem number (s : ByteArray) (w : World) (hs : s.size ≤ 3) (hd : ∀ c ∈ byt s, dig c = true) : Calls Tryz.prog 145 #[.string s] w fun e w' => e = .returned (.int .i64 (dval (byt s))) ∧ w = w' := by
 have hl := len_byt s
 have HD := hide (fun k (h : k < s.size) => hd s[k] (by rw [← get_byt s k h]; exact List.getElem_mem _))
 have HB := hide (fun k (hk : k ≤ s.size) => dval_bd k ((byt s).take k) (by rw [List.length_take]; omega) (fun c hc => hd c (List.mem_of_mem_take hc)) (by omega))
 have HS := hide (fun k (h : k < s.size) => show dval ((byt s).take (k + 1)) = 10 * dval ((byt s).take k) + s[k].toNat - 48 by
  rw [List.take_succ_eq_append_getElem (by rw [hl]; exact h), dval_snoc, get_byt])
 have HE := hide (show dval (byt s) = dval ((byt s).take s.size) by rw [List.take_of_length_le (by omega)])
 clear hd hl
 go_enter Tryz.func145, Tryz.ntmps145
 go_wp2
 go_loop [3, 7] (fun v i => ∃ (k : Nat) (x : Int), k ≤ s.size ∧ i = .int .i64 k ∧ v = .int .i64 x ∧ 0 ≤ x ∧ x ≤ 999 ∧ Hid (x = dval ((byt s).take k))) (fun _ i => s.size - (intOf i).toNat)
 case atStart => exact ⟨0, 0, Nat.zero_le _, rfl, rfl, by omega, by omega, hide rfl⟩
 case round =>
  obtain ⟨k, x, hk, rfl, rfl, x0, x1, hx⟩ := hrel
  rcases Nat.lt_or_ge k s.size with hlt | hge
  ·obtain ⟨y, hy⟩ : ∃ y : Int, (s[k].toNat : Int) = y := ⟨_, rfl⟩
   obtain ⟨y0, y1⟩ := r8_.dig_bd (HD.out k hlt)
   rw [hy] at y0 y1
   have e1 := HS.out k hlt
   have e2 := HB.out (k + 1) hlt
   rw [← hx.out, hy] at e1
   rw [e1] at e2
   replace e1 := hide e1
   obtain ⟨e2, e3, _⟩ := e2
   go_wp2
   go_round
   case rel => exact ⟨k + 1, 10 * x + y - 48, by omega, by go_num, by go_num, e2, e3, hide e1.out.symm⟩
   case measure => simp [intOf]; omega
  ·obtain rfl : k = s.size := by omega
   go_wp2
   go_ret
   exact ⟨reti (by rw [HE.out]; exact hx.out), rfl⟩
theorem fld2 {a b : UInt8} : dval [a, b] = 10 * ((a.toNat : Int) - 48) + b.toNat - 48 := by unfold dval; simp
theorem field (s : ByteArray) (w : World) (hs : s.size ≤ 1000000) : Calls Tryz.prog 174 #[.string s, .int .i64 59] w fun e w' => e = .returned (.tuple #[.int .i64 (if 0 ≤ hmsField (byt s) then hmsField (byt s) else 0), .bool (decide (0 ≤ hmsField (byt s)))]) ∧ w = w' := by
 have hl := len_byt s
 rcases hb : byt s with _ | ⟨c, _ | ⟨a, _ | ⟨b, t⟩⟩⟩
 ·rw [hb] at hl
  have h3 : s.size = 0 := hl.symm
  clear hl hb
  go_enter Tryz.func174, Tryz.ntmps174
  go_wp2
  go_ret2
  exact ⟨rfl, rfl⟩
 ·rw [hb] at hl
  have h3 : s.size = 1 := hl.symm
  clear hl hb
  go_enter Tryz.func174, Tryz.ntmps174
  go_wp2
  go_ret2
  exact ⟨rfl, rfl⟩
 ·rw [hb] at hl
  have h3 : s.size = 2 := hl.symm
  clear hl hb
  go_enter Tryz.func174, Tryz.ntmps174
  go_wp2
  go_ret2
  exact ⟨rfl, rfl⟩
 have h3 : 3 ≤ s.size := by rw [← hl, hb]; simp
 obtain ⟨hi, hc, _⟩ := drop_cons (s := s) (i := 0) (c := c) (t := a :: b :: t) (by rw [hb]; rfl)
 obtain ⟨x, hx⟩ : ∃ x : Int, (c.toNat : Int) = x := ⟨_, rfl⟩
 have hsub : byt (s.extract 1 3) = [a, b] := by rw [byt_extract, hb]; rfl
 have hss : (s.extract 1 3).size = 2 := by rw [← len_byt, hsub]; rfl
 have C := hide (fun w => countDigits (s.extract 1 3) w (by omega))
 rw [hsub] at C
 obtain ⟨v, hv⟩ : ∃ v, v = hmsField (c :: a :: b :: t) := ⟨_, rfl⟩
 have hvd : v = if x = 58 ∧ dig a ∧ dig b ∧ 10 * ((a.toNat : Int) - 48) + b.toNat - 48 ≤ 59 then 10 * ((a.toNat : Int) - 48) + b.toNat - 48 else -1 := by rw [hv, ← hx]; rfl
 rw [← hv]
 rw [← hc] at hx
 clear hl hb hc hv
 rcases (show x = 58 ∨ (x != 58) = true by by_cases h : x = 58 <;> simp [h]) with rfl | h58
 rotate_left
 ·have hF : v = -1 := by rw [hvd, if_neg (by simp at h58; omega)]
  subst hF
  clear hvd C hsub hss
  go_enter Tryz.func174, Tryz.ntmps174
  go_wp2
  go_ret2
  exact ⟨rfl, rfl⟩
 rcases ha : dig a
 ·have hF : v = -1 := by rw [hvd, if_neg (by rw [ha]; simp)]
  subst hF
  rw [show ([a, b].takeWhile dig).length = 0 by simp [ha]] at C
  clear hvd hsub hss ha
  go_enter Tryz.func174, Tryz.ntmps174
  go_wp2_with (go_at_call 144; refine (C.out _).mono ?_; rintro e w' ⟨rfl, rfl⟩)
  go_ret2
  exact ⟨rfl, rfl⟩
 rcases hb : dig b
 ·have hF : v = -1 := by rw [hvd, if_neg (by rw [hb]; simp)]
  subst hF
  rw [show ([a, b].takeWhile dig).length = 1 by simp [ha, hb]] at C
  clear hvd hsub hss ha hb
  go_enter Tryz.func174, Tryz.ntmps174
  go_wp2_with (go_at_call 144; refine (C.out _).mono ?_; rintro e w' ⟨rfl, rfl⟩)
  go_ret2
  exact ⟨rfl, rfl⟩
 rw [show ([a, b].takeWhile dig).length = 2 by simp [ha, hb]] at C
 have N := hide (fun w => number (s.extract 1 3) w (by omega) (by rw [hsub]; intro c hc; simp at hc; rcases hc with rfl | rfl <;> assumption))
 rw [hsub, fld2] at N
 have A1 := r8_.dig_bd ha
 have B1 := r8_.dig_bd hb
 rw [ha, hb] at hvd
 obtain ⟨y, hy⟩ : ∃ y, y = 10 * ((a.toNat : Int) - 48) + b.toNat - 48 := ⟨_, rfl⟩
 rw [← hy] at hvd N
 have y0 : 0 ≤ y := by omega
 have y1 : y ≤ 99 := by omega
 clear hsub hss ha hb A1 B1 hy
 by_cases h59 : y ≤ 59
 ·have hF : v = y := by rw [hvd, if_pos ⟨rfl, rfl, rfl, h59⟩]
  subst hF
  rw [show (if 0 ≤ v then v else 0) = v from if_pos y0, show decide (0 ≤ v) = true by simp [y0]]
  clear hvd
  go_enter Tryz.func174, Tryz.ntmps174
  go_wp2_with (first
   | (go_at_call 144; refine (C.out _).mono ?_; rintro e w' ⟨rfl, rfl⟩)
   | (go_at_call 145; refine (N.out _).mono ?_; rintro e w' ⟨rfl, rfl⟩))
  go_ret2
  exact ⟨rfl, rfl⟩
 ·have hF : v = -1 := by rw [hvd, if_neg (by omega)]
  subst hF
  clear hvd
  go_enter Tryz.func174, Tryz.ntmps174
  go_wp2_with (first
   | (go_at_call 144; refine (C.out _).mono ?_; rintro e w' ⟨rfl, rfl⟩)
   | (go_at_call 145; refine (N.out _).mono ?_; rintro e w' ⟨rfl, rfl⟩))
  go_ret2
  exact ⟨rfl, rfl⟩
end hm_
def hmsVals (l : List UInt8) : Int × Int × Nat :=
 if 0 ≤ hmsField l then (if 0 ≤ hmsField (l.drop 3) then (hmsField l, hmsField (l.drop 3), 6) else (hmsField l, 0, 3)) else (0, 0, 0)
theorem tail_vals {l : List UInt8} {a b : Int} {n : Nat} (h : hmsVals l = (a, b, n)) : hmsTail l = (60 * a + b, n) ∧ 0 ≤ a ∧ a ≤ 59 ∧ 0 ≤ b ∧ b ≤ 59 ∧ n ≤ 6 := by
 have b1 := hmsField_bd l
 have b2 := hmsField_bd (l.drop 3)
 unfold hmsVals at h
 unfold hmsTail
 by_cases h1 : 0 ≤ hmsField l
 ·by_cases h2 : 0 ≤ hmsField (l.drop 3)
  ·rw [if_pos h1, if_pos h2] at h
   rw [if_pos h1, if_pos h2]
   simp only [Prod.mk.injEq] at h
   obtain ⟨rfl, rfl, rfl⟩ := h
   exact ⟨rfl, h1, b1.2, h2, b2.2, Nat.le_refl _⟩
  ·rw [if_pos h1, if_neg h2] at h
   rw [if_pos h1, if_neg h2]
   simp only [Prod.mk.injEq] at h
   obtain ⟨rfl, rfl, rfl⟩ := h
   exact ⟨by rw [Int.add_zero], h1, b1.2, by omega, by omega, by omega⟩
 ·rw [if_neg h1] at h
  rw [if_neg h1]
  simp only [Prod.mk.injEq] at h
  obtain ⟨rfl, rfl, rfl⟩ := h
  exact ⟨rfl, by omega, by omega, by omega, by omega, by omega⟩
theorem elInt : ElT Tryz.prog 173 3 (.int .i64 0) 8 := ⟨Tryz.underlying173, by kernel_rfl, rfl⟩
namespace hm_
theorem field_ (s : ByteArray) (l : List UInt8) (f : Int) (ok : Bool) (v : Int) (w : World) (hs : s.size ≤ 1000000) (hl : byt s = l) (hf : hmsField l = f) (h : (0 ≤ f ∧ ok = true ∧ v = f) ∨ (f < 0 ∧ ok = false ∧ v = 0)) :
 Calls Tryz.prog 174 #[.string s, .int .i64 59] w fun e w' => e = .returned (.tuple #[.int .i64 v, .bool ok]) ∧ w = w' := by
 subst hl hf
 refine (field s w hs).mono ?_
 rintro e w' ⟨rfl, rfl⟩
 refine ⟨?_, rfl⟩
 rcases h with ⟨h, rfl, rfl⟩ | ⟨h, rfl, rfl⟩
 ·rw [if_pos h, decide_eq_true h]
 ·rw [if_neg (by omega), decide_eq_false (by omega)]
theorem fields (s : ByteArray) (p : Nat) (a b : Int) (n : Nat) (w : World) (hs : s.size ≤ 1000000) (hp0 : w.cell? ⟨p, 0, none⟩ = some (.int .i64 59)) (hp1 : w.cell? ⟨p, 1, none⟩ = some (.int .i64 59)) (hv : hmsVals (byt s) = (a, b, n)) :
 Calls Tryz.prog 146 #[.string s, .slice (some ⟨p, 0, none⟩) 2 2] w fun e w' => ∃ g, e = .returned (.tuple #[.slice (some ⟨g, 0, none⟩) 2 2, .int .i64 n]) ∧ Ow w' w.heap.size 3 (some ⟨g, 0, none⟩) 2 2 [.int .i64 a, .int .i64 b] ∧ Below w.heap.size w w' := by
 obtain ⟨f0, hf0⟩ : ∃ f, f = hmsField (byt s) := ⟨_, rfl⟩
 obtain ⟨f1, hf1⟩ : ∃ f, f = hmsField ((byt s).drop 3) := ⟨_, rfl⟩
 have b0 := hmsField_bd (byt s)
 have b1 := hmsField_bd ((byt s).drop 3)
 have e3 : byt (s.extract 3 s.size) = (byt s).drop 3 := by rw [byt_extract, List.take_of_length_le (by rw [len_byt]; omega)]
 have s3 : (s.extract 3 s.size).size ≤ 1000000 := by rw [← len_byt, e3, List.length_drop, len_byt]; omega
 have F0 := hide (fun ok v w h => field_ s _ f0 ok v w hs rfl hf0.symm h)
 have F1 := hide (fun ok v w h => field_ (s.extract 3 s.size) _ f1 ok v w s3 e3 hf1.symm h)
 unfold hmsVals at hv
 rw [← hf0, ← hf1] at hv
 rw [← hf0] at b0
 rw [← hf1] at b1
 have h3 : 0 ≤ f0 → 3 ≤ s.size := fun h => by rw [hf0] at h; have := (field_len h).1; rw [len_byt] at this; exact this
 clear e3 hf0 hf1 s3
 have hlt := cell_lt hp0
 have HB := hide (fun (W : World) (h : Below w.heap.size w W) => (⟨cellE h hp0, cellE h hp1⟩ : W.cell? ⟨p, 0, none⟩ = some (.int .i64 59) ∧ W.cell? ⟨p, 1, none⟩ = some (.int .i64 59)))
 have hK : ∃ K : Nat, (K = 0 ∧ f0 < 0 ∧ a = 0 ∧ b = 0 ∧ n = 0) ∨ (K = 1 ∧ 0 ≤ f0 ∧ f1 < 0 ∧ a = f0 ∧ b = 0 ∧ n = 3) ∨ (K = 2 ∧ 0 ≤ f0 ∧ 0 ≤ f1 ∧ a = f0 ∧ b = f1 ∧ n = 6) := by
  by_cases h1 : 0 ≤ f0
  ·by_cases h2 : 0 ≤ f1
   ·rw [if_pos h1, if_pos h2] at hv
    simp only [Prod.mk.injEq] at hv
    exact ⟨2, .inr (.inr ⟨rfl, h1, h2, hv.1.symm, hv.2.1.symm, hv.2.2.symm⟩)⟩
   ·rw [if_pos h1, if_neg h2] at hv
    simp only [Prod.mk.injEq] at hv
    exact ⟨1, .inr (.inl ⟨rfl, h1, by omega, hv.1.symm, hv.2.1.symm, hv.2.2.symm⟩)⟩
  ·rw [if_neg h1] at hv
   simp only [Prod.mk.injEq] at hv
   exact ⟨0, .inl ⟨rfl, by omega, hv.1.symm, hv.2.1.symm, hv.2.2.symm⟩⟩
 clear hv hp0 hp1
 obtain ⟨K, hK⟩ := hK
 have hbK : ∀ k, k ≤ K → k ≤ 2 := fun k h => by omega
 have HK := hide hK
 have H3 := hide h3
 clear hK h3 hbK
 go_enter Tryz.func146, Tryz.ntmps146
 go_wp2_with (refine mk (n := 2) (k := 2) elInt (Below.refl w.heap.size _) (Nat.le_refl _) (Nat.le_refl _) rfl (.tmp 13) (.tmp 13) rfl .i64 .i64 _ _ rfl rfl rfl rfl (by omega) (by omega) (by simp [maxLen]) ?_; intro w1 ho hb)
 go_loopw [7, 17] (fun sz i wr => ∃ (k : Nat) (y z : Int), k ≤ K ∧ k ≤ 2 ∧ i = .int .i64 y ∧ y = k ∧ sz = .int .i64 z ∧ z = 3 * (k : Int) ∧ Ow wr w.heap.size 3 (some ⟨w.heap.size, 0, none⟩) 2 2 [.int .i64 (if 1 ≤ k then f0 else 0), .int .i64 (if 2 ≤ k then f1 else 0)] ∧ Below w.heap.size w wr) (fun _ i _ => 3 - (intOf i).toNat)
 case atStart => exact ⟨0, 0, 0, by omega, by omega, rfl, rfl, rfl, rfl, ho, hb⟩
 case round =>
  clear ho hb
  obtain ⟨k, y, z, hkK, hk2, rfl, hy, rfl, hz, ho, hb⟩ := hrel
  obtain ⟨l0, l1⟩ := HB.out _ hb
  have hfr := ho.frozen
  replace hb := hide hb
  rcases (show k = 0 ∨ k = 1 ∨ k = 2 by omega) with rfl | rfl | rfl
  ·obtain rfl : y = 0 := by omega
   obtain rfl : z = 0 := by omega
   clear hy hz
   by_cases hf : f0 < 0
   ·have hF : a = 0 ∧ b = 0 ∧ n = 0 := by have := HK.out; omega
    obtain ⟨rfl, rfl, rfl⟩ := hF
    replace ho := hide ho
    go_wp2_with (go_at_call 174; with_reducible refine (F0.out _ _ _ (.inr ⟨hf, rfl, rfl⟩)).mono ?_; rintro e w3 ⟨rfl, rfl⟩)
    go_ret2
    exact ⟨_, rfl, ho.out, hb.out⟩
   ·have hset := ho.set 0 (.int .i64 f0)
    have hl := ho.cell 0 (by omega)
    replace ho := hide ho
    replace hset := hide hset
    go_wp2_with (go_at_call 174; with_reducible refine (F0.out _ _ _ (.inl ⟨by omega, rfl, rfl⟩)).mono ?_; rintro e w3 ⟨rfl, rfl⟩)
    go_roundw
    case rel => exact ⟨1, 1, 3, by have := HK.out; omega, by omega, by go_num, rfl, by go_num, rfl, hset.out, bl_set hb.out (Nat.le_refl _) _⟩
    case measure => simp [intOf]
  ·obtain rfl : y = 1 := by omega
   obtain rfl : z = 3 := by omega
   clear hy hz
   have h0 : 0 ≤ f0 := by have := HK.out; omega
   have h3 := H3.out h0
   by_cases hf : f1 < 0
   ·have hF : a = f0 ∧ b = 0 ∧ n = 3 := by have := HK.out; omega
    obtain ⟨rfl, rfl, rfl⟩ := hF
    replace ho := hide ho
    go_wp2_with (go_at_call 174; with_reducible refine (F1.out _ _ _ (.inr ⟨hf, rfl, rfl⟩)).mono ?_; rintro e w3 ⟨rfl, rfl⟩)
    go_ret2
    exact ⟨_, rfl, ho.out, hb.out⟩
   ·have hset := ho.set 1 (.int .i64 f1)
    have hl := ho.cell 1 (by omega)
    replace ho := hide ho
    replace hset := hide hset
    go_wp2_with (go_at_call 174; with_reducible refine (F1.out _ _ _ (.inl ⟨by omega, rfl, rfl⟩)).mono ?_; rintro e w3 ⟨rfl, rfl⟩)
    go_roundw
    case rel => exact ⟨2, 2, 6, by have := HK.out; omega, by omega, by go_num, rfl, by go_num, rfl, hset.out, bl_set hb.out (Nat.le_refl _) _⟩
    case measure => simp [intOf]
  ·obtain rfl : y = 2 := by omega
   obtain rfl : z = 6 := by omega
   clear hy hz
   have hF : a = f0 ∧ b = f1 ∧ n = 6 := by have := HK.out; omega
   obtain ⟨rfl, rfl, rfl⟩ := hF
   replace ho := hide ho
   go_wp2_with fail
   go_ret2
   exact ⟨_, rfl, ho.out, hb.out⟩
theorem Parse_ (s : ByteArray) (st : Nat) (neg : Bool) (c0 : Int) (w : World) (hs : s.size ≤ 1000000) (hst : sgnH (byt s) = st) (hsz : st ≤ s.size) (hc : ∀ h : 0 < s.size, ((s[0]'h).toNat : Int) = c0) (hneg : (neg = true ∧ c0 = 45) ∨ (neg = false ∧ (c0 == 45) = false)) :
 Calls Tryz.prog 121 #[.string s] w fun e w' => e = .returned (hmsRes ((hmsBody ((byt s).drop st)).map fun p => (if neg then -p.1 else p.1, p.2 + st))) ∧ Below w.heap.size w w' := by
 have S := hide (fun w => signSize s w hs)
 rw [hst] at S
 have hb := hide (Below.refl w.heap.size w)
 have hl := len_byt s
 obtain ⟨B, hB⟩ : ∃ B, B = (byt s).drop st := ⟨_, rfl⟩
 have hBl : B.length = s.size - st := by rw [hB, List.length_drop, hl]
 rw [← hB]
 obtain ⟨D, hD⟩ : ∃ D, D = (B.takeWhile dig).length := ⟨_, rfl⟩
 have hDl : D ≤ B.length := by rw [hD]; exact tw_le _ _
 have xs : byt (s.extract st s.size) = B := by rw [byt_extract, List.take_of_length_le (by omega), ← hB]
 have zs : (s.extract st s.size).size ≤ 1000000 := by rw [← len_byt, xs]; omega
 have C := hide (fun w => countDigits (s.extract st s.size) w zs)
 rw [xs, ← hD] at C
 obtain ⟨v, hv⟩ : ∃ v, v = dval (B.takeWhile dig) := ⟨_, rfl⟩
 obtain ⟨r, hr⟩ : ∃ r, r = hmsRes ((hmsBody B).map fun p => (if neg then -p.1 else p.1, p.2 + st)) := ⟨_, rfl⟩
 rw [← hr]
 unfold hmsBody at hr
 simp only at hr
 rw [← hD, ← hv] at hr
 have hc0 := hide hc
 clear xs zs hst
 have t0 : 0 ≤ (st : Int) := by omega
 have t1 : (st : Int) ≤ s.size := by omega
 rcases (show D = 0 ∨ 3 < D ∨ (1 ≤ D ∧ D ≤ 3) by omega) with d0 | d3 | ⟨d1, d3⟩
 ·rw [if_neg (by omega)] at hr
  subst d0
  replace hr := hide hr
  clear hD hv hB hBl hDl hl hc
  go_enter Tryz.func121, Tryz.ntmps121
  go_wp2_with (first
   | (go_at_call 143; refine (S.out _).mono ?_; rintro e w3 ⟨rfl, rfl⟩)
   | (go_at_call 144; with_reducible refine (C.out _).mono ?_; rintro e w3 ⟨rfl, rfl⟩))
  go_ret3
  exact ⟨retV' (by rw [hr.out]; rfl), hb.out⟩
 ·rw [if_neg (by omega)] at hr
  replace hr := hide hr
  have d4 : decide ((D : Int) < 1) = false := by simp; omega
  have d5 : decide ((3 : Int) < D) = true := by simp; omega
  clear hD hv hB hBl hDl hl hc
  go_enter Tryz.func121, Tryz.ntmps121
  go_wp2_with (first
   | (go_at_call 143; refine (S.out _).mono ?_; rintro e w3 ⟨rfl, rfl⟩)
   | (go_at_call 144; with_reducible refine (C.out _).mono ?_; rintro e w3 ⟨rfl, rfl⟩))
  go_ret3
  exact ⟨retV' (by rw [hr.out]; rfl), hb.out⟩
 have htk : B.take D = B.takeWhile dig := by rw [hD, take_tw]
 obtain ⟨E, hE⟩ : ∃ E, E = st + D := ⟨_, rfl⟩
 have xn : byt (s.extract st E) = B.takeWhile dig := by rw [byt_extract, ← htk, hB, hE, List.drop_take]; congr 1; omega
 have zn : (s.extract st E).size ≤ 3 := by rw [← len_byt, xn, ← hD]; exact d3
 have hdg : ∀ c ∈ B.takeWhile dig, dig c = true := fun c h => r8_.tw_all' h
 have N := hide (fun w => number (s.extract st E) w zn (by rw [xn]; exact hdg))
 rw [xn, ← hv] at N
 have hvb := dval_bd D (B.takeWhile dig) (by omega) hdg d3
 rw [← hv] at hvb
 obtain ⟨v0, v1, _⟩ := hvb
 have hE' : (st : Int) + (D : Int) = (E : Int) := by omega
 have eE : E ≤ s.size := by omega
 have d4 : decide ((D : Int) < 1) = false := by simp; omega
 have d5 : decide ((3 : Int) < D) = false := by simp; omega
 have i1 : (st : Int) ≤ E := by omega
 have i2 : (E : Int) ≤ s.size := by omega
 have xf : byt (s.extract E s.size) = B.drop D := by rw [byt_extract, List.take_of_length_le (by omega), hB, List.drop_drop, hE]
 have zf : (s.extract E s.size).size ≤ 1000000 := by rw [← len_byt, xf, List.length_drop]; omega
 have hpos : 0 < s.size := by omega
 by_cases h167 : 167 < v
 ·rw [if_neg (by omega)] at hr
  replace hr := hide hr
  clear hD hv hB hBl hDl hl htk hE xn zn hdg xf zf hc
  go_enter Tryz.func121, Tryz.ntmps121
  go_wp2_with (first
   | (go_at_call 143; refine (S.out _).mono ?_; rintro e w3 ⟨rfl, rfl⟩)
   | (go_at_call 144; with_reducible refine (C.out _).mono ?_; rintro e w3 ⟨rfl, rfl⟩)
   | (go_at_call 145; with_reducible refine (N.out _).mono ?_; rintro e w3 ⟨rfl, rfl⟩))
  go_ret3
  exact ⟨retV' (by rw [hr.out]; rfl), hb.out⟩
 ·obtain ⟨a, b, n, hvv⟩ : ∃ a b n, hmsVals (B.drop D) = (a, b, n) := ⟨_, _, _, rfl⟩
  obtain ⟨htl, a0, a1, b0, b1, n6⟩ := tail_vals hvv
  rw [if_pos ⟨d1, d3, by omega⟩, htl] at hr
  have hr2 : r = hmsRes (some (if neg then -(3600 * v + (60 * a + b)) else 3600 * v + (60 * a + b), D + n + st)) := hr
  have F := hide (fun p w h h' => fields (s.extract E s.size) p a b n w zf h h' (by rw [xf]; exact hvv))
  replace hr2 := hide hr2
  replace hE' := hide hE'
  have hcv := hc hpos
  have v167 : decide (167 < v) = false := by simp; omega
  clear hD hv hB hBl hDl hl htk hE xn zn hdg xf zf hvv htl hc hc0 hr
  have hE2 := hE'.out
  rcases hneg with ⟨rfl, rfl⟩ | ⟨rfl, hne⟩
  all_goals
   go_enter Tryz.func121, Tryz.ntmps121
   go_wp2_with (first
    | (go_at_call 143; refine (S.out _).mono ?_; rintro e w3 ⟨rfl, rfl⟩)
    | (go_at_call 144; with_reducible refine (C.out _).mono ?_; rintro e w3 ⟨rfl, rfl⟩)
    | (go_at_call 145; with_reducible refine (N.out _).mono ?_; rintro e w3 ⟨rfl, rfl⟩))
   refine (F.out _ _ (by simp) (by simp)).mono ?_
   rintro e w1 ⟨g, rfl, ho, h1⟩
   replace hb := hide (bel_next (bl_alloc hb.out _) h1)
   have c0 : w1.cell? ⟨g, 0, none⟩ = some (.int .i64 a) := ho.cell 0 (by omega)
   have c1 : w1.cell? ⟨g, 1, none⟩ = some (.int .i64 b) := ho.cell 1 (by omega)
   have q1 : IntKind.i64.wrap (v * 3600) = v * 3600 := by rw [IntKind.wrap_i64]; omega
   have q2 : IntKind.i64.wrap (a * 60) = a * 60 := by rw [IntKind.wrap_i64]; omega
   have q3 : IntKind.i64.wrap (v * 3600 + a * 60) = v * 3600 + a * 60 := by rw [IntKind.wrap_i64]; omega
   have q4 : IntKind.i64.wrap (v * 3600 + a * 60 + b) = v * 3600 + a * 60 + b := by rw [IntKind.wrap_i64]; omega
   clear h1 ho
   go_wp2_with fail
   go_region
   go_wp2
   go_ret3
   exact ⟨r8_.hres hr2.out (by simp <;> omega) (by have := hE'.out; omega), bl_drew hb.out⟩
theorem Parse (s : ByteArray) (w : World) (hs : s.size ≤ 1000000) : Calls Tryz.prog 121 #[.string s] w fun e w' => e = .returned (hmsRes (hmsParse (byt s))) ∧ Below w.heap.size w w' := by
 cases h : byt s with
 | nil =>
   have h0 : s.size = 0 := by rw [← len_byt, h]; rfl
   have := Parse_ s 0 false 0 w hs (by rw [h]; rfl) (by omega) (fun q => by omega) (.inr ⟨rfl, rfl⟩)
   rw [h] at this
   exact this
 | cons c t =>
   obtain ⟨hi, hc, _⟩ := drop_cons (s := s) (i := 0) (c := c) (t := t) (by rw [h]; rfl)
   have hc' : ∀ q : 0 < s.size, ((s[0]'q).toNat : Int) = (c.toNat : Int) := fun q => by rw [hc]
   unfold hmsParse
   by_cases h43 : (c.toNat : Int) = 43
   ·have := Parse_ s 1 false c.toNat w hs (by rw [h]; show (if _ then 1 else 0) = 1; rw [if_pos (.inl h43)]) (by omega) hc' (.inr ⟨rfl, by rw [h43]; rfl⟩)
    rw [h] at this
    simp only [if_pos h43]
    exact this
   ·by_cases h45 : (c.toNat : Int) = 45
    ·have := Parse_ s 1 true c.toNat w hs (by rw [h]; show (if _ then 1 else 0) = 1; rw [if_pos (.inr h45)]) (by omega) hc' (.inl ⟨rfl, h45⟩)
     rw [h] at this
     simp only [if_neg h43, if_pos h45]
     exact this
    ·have := Parse_ s 0 false c.toNat w hs (by rw [h]; show (if _ then 1 else 0) = 0; rw [if_neg (by omega)]) (by omega) hc' (.inr ⟨rfl, by simpa using h45⟩)
     rw [h] at this
     simp only [if_neg h43, if_neg h45]
     rw [show ((c :: t).drop 0) = c :: t from rfl] at this
     rw [show (hmsBody (c :: t)) = (hmsBody (c :: t)).map (fun p => (if false = true then -p.1 else p.1, p.2 + 0)) by cases hmsBody (c :: t) <;> rfl]
     exact this
end hm_
end Go.Proofs.YtbehflfpdkedgaaGreatDoor
