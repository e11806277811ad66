/-
  CONTRACTS of zoneinfolaw09's own helper 'day' (a rule day spelt with its time) and of the closure in it. No conditions beyond what each states.
-/
import Derived.Test.YtjjmkbofddbnnaaGreatDoorPo
import Derived.Deep.RegionHeld3
import Derived.Deep.DeepCutAuto
namespace Go.Proofs.YtjjmkbofddbnnaaGreatDoor
open Go.ChangeShapes Go.WideShapes Go.ChangeAt Go.RowKit
set_option linter.unusedVariables false
namespace l9_
theorem conv1 (W : World) (g : Nat) (c : Int) (c0 : 0 ≤ c) (c1 : c < 256) (h : W.cell? ⟨g, 0, none⟩ = some (.int .u8 c)) : (convert 41 9 (.slice (some ⟨g, 0, none⟩) 1 1)).run Tryz.prog W = .ok (.string ⟨#[UInt8.ofNat c.toNat]⟩) W :=
  run_convert_bytes_back W _ _ 5 ⟨g, 0, none⟩ 1 [UInt8.ofNat c.toNat] Tryz.underlying41 Tryz.underlying5 Tryz.underlying9 (fun j hj => by
    obtain rfl : j = 0 := by simpa using hj
    have : ((UInt8.ofNat c.toNat).toNat : Int) = c := by simp; omega
    simp only [List.getElem_cons_zero, this]
    exact h)
theorem conv2 (W : World) (g : Nat) (c d : Int) (c0 : 0 ≤ c) (c1 : c < 256) (d0 : 0 ≤ d) (d1 : d < 256) (h : W.cell? ⟨g, 0, none⟩ = some (.int .u8 c)) (h' : W.cell? ⟨g, 1, none⟩ = some (.int .u8 d)) :
    (convert 41 9 (.slice (some ⟨g, 0, none⟩) 2 2)).run Tryz.prog W = .ok (.string ⟨#[UInt8.ofNat c.toNat, UInt8.ofNat d.toNat]⟩) W :=
  run_convert_bytes_back W _ _ 5 ⟨g, 0, none⟩ 2 [UInt8.ofNat c.toNat, UInt8.ofNat d.toNat] Tryz.underlying41 Tryz.underlying5 Tryz.underlying9 (fun j hj => by
    have e1 : ((UInt8.ofNat c.toNat).toNat : Int) = c := by simp; omega
    have e2 : ((UInt8.ofNat d.toNat).toNat : Int) = d := by simp; omega
    have hj' : j = 0 ∨ j = 1 := by simp at hj; omega
    rcases hj' with rfl | rfl
    · simp only [List.getElem_cons_zero, e1]; exact h
    · simp only [List.getElem_cons_succ, List.getElem_cons_zero, e2]; exact h')
theorem conv3 (W : World) (g : Nat) (c d e : Int) (c0 : 0 ≤ c) (c1 : c < 256) (d0 : 0 ≤ d) (d1 : d < 256) (e0 : 0 ≤ e) (e1 : e < 256) (h : W.cell? ⟨g, 0, none⟩ = some (.int .u8 c)) (h' : W.cell? ⟨g, 1, none⟩ = some (.int .u8 d)) (h'' : W.cell? ⟨g, 2, none⟩ = some (.int .u8 e)) :
    (convert 41 9 (.slice (some ⟨g, 0, none⟩) 3 3)).run Tryz.prog W = .ok (.string ⟨#[UInt8.ofNat c.toNat, UInt8.ofNat d.toNat, UInt8.ofNat e.toNat]⟩) W :=
  run_convert_bytes_back W _ _ 5 ⟨g, 0, none⟩ 3 [UInt8.ofNat c.toNat, UInt8.ofNat d.toNat, UInt8.ofNat e.toNat] Tryz.underlying41 Tryz.underlying5 Tryz.underlying9 (fun j hj => by
    have q1 : ((UInt8.ofNat c.toNat).toNat : Int) = c := by simp; omega
    have q2 : ((UInt8.ofNat d.toNat).toNat : Int) = d := by simp; omega
    have q3 : ((UInt8.ofNat e.toNat).toNat : Int) = e := by simp; omega
    have hj' : j = 0 ∨ j = 1 ∨ j = 2 := by simp at hj; omega
    rcases hj' with rfl | rfl | rfl
    · simp only [List.getElem_cons_zero, q1]; exact h
    · simp only [List.getElem_cons_succ, List.getElem_cons_zero, q2]; exact h'
    · simp only [List.getElem_cons_succ, List.getElem_cons_zero, q3]; exact h'')
theorem dec (v : Int) (w : World) (h0 : 0 ≤ v) (h1 : v ≤ 999) : Calls Tryz.prog 21 #[.int .i64 v] w fun e w' => e = .returned (.string (mkS (decF v))) ∧ Below w.heap.size w w' := by
  by_cases ha : v < 10
  · have hf := hide (show mkS (decF v) = ⟨#[UInt8.ofNat (48 + v).toNat]⟩ by unfold decF; rw [if_pos ha]; rfl)
    have hcv := fun (W : World) (g : Nat) h => conv1 W g (48 + v) (by omega) (by omega) h
    go_enter Tryz.func21, Tryz.ntmps21
    go_wp2
    go_ret
    exact ⟨retS2 (by rw [hf.out]), bl_new _ _⟩
  · by_cases hb : v < 100
    · obtain ⟨a, ha'⟩ : ∃ a, v / 10 = a := ⟨_, rfl⟩
      obtain ⟨b, hb'⟩ : ∃ b, v % 10 = b := ⟨_, rfl⟩
      have hf := hide (show mkS (decF v) = ⟨#[UInt8.ofNat (48 + a).toNat, UInt8.ofNat (48 + b).toNat]⟩ by unfold decF; rw [if_neg ha, if_pos hb, ha', hb']; rfl)
      have a0 : 0 ≤ a := by omega
      have a1 : a ≤ 9 := by omega
      have b0 : 0 ≤ b := by omega
      have b1 : b ≤ 9 := by omega
      have hcv := fun (W : World) (g : Nat) h h' => conv2 W g (48 + a) (48 + b) (by omega) (by omega) (by omega) (by omega) h h'
      go_enter Tryz.func21, Tryz.ntmps21
      go_wp2
      go_ret
      exact ⟨retS2 (by rw [hf.out]), bl_new _ _⟩
    · obtain ⟨a, ha'⟩ : ∃ a, v / 100 = a := ⟨_, rfl⟩
      obtain ⟨b, hb'⟩ : ∃ b, v / 10 % 10 = b := ⟨_, rfl⟩
      obtain ⟨c, hc'⟩ : ∃ c, v % 10 = c := ⟨_, rfl⟩
      have hf := hide (show mkS (decF v) = ⟨#[UInt8.ofNat (48 + a).toNat, UInt8.ofNat (48 + b).toNat, UInt8.ofNat (48 + c).toNat]⟩ by unfold decF; rw [if_neg ha, if_neg hb, ha', hb', hc']; rfl)
      have a0 : 0 ≤ a := by omega
      have a1 : a ≤ 9 := by omega
      have b0 : 0 ≤ b := by omega
      have b1 : b ≤ 9 := by omega
      have c0 : 0 ≤ c := by omega
      have c1 : c ≤ 9 := by omega
      have hcv := fun (W : World) (g : Nat) h h' h'' => conv3 W g (48 + a) (48 + b) (48 + c) (by omega) (by omega) (by omega) (by omega) (by omega) (by omega) h h' h''
      go_enter Tryz.func21, Tryz.ntmps21
      go_wp2
      go_ret
      exact ⟨retS2 (by rw [hf.out]), bl_new _ _⟩
/-- a concatenation as a variable of its own. -/
theorem cat (a b : ByteArray) (n : Nat) (h : a.size + b.size ≤ n) (hn : n ≤ 1000000) : ∃ A : ByteArray, A.size ≤ n ∧ byt A = byt a ++ byt b ∧ ∀ w, (Op.stringOp .add a b).run Tryz.prog w = .ok (.string A) w :=
  ⟨a ++ b, by rw [ByteArray.size_append]; exact h, byt_append a b, fun w => run_string_add_sum w a b (by omega)⟩
theorem vstr {v : Int} (h0 : 0 ≤ v) (h1 : v ≤ 999) : ∃ S : ByteArray, S = mkS (decF v) ∧ S.size ≤ 3 ∧ byt S = decF v := ⟨_, rfl, by rw [size_mk]; exact (decF_is h0 h1).2.2.2, byt_mk _⟩
set_option maxRecDepth 100000 in
set_option maxHeartbeats 4000000 in
theorem day (d : RD) (w : World) (hd : rdOk d) : Calls Tryz.prog 12 #[vday d] w fun e w' => e = .returned (.string (mkS (dayF d))) ∧ Below w.heap.size w w' := by
  obtain ⟨K, D, M, Wk, Wd, T⟩ := d
  obtain ⟨t0, t1, hk⟩ := hd
  unfold vday
  simp only at t0 t1 hk ⊢
  have FT0 := hide (fun w => r8_.Format T w (by omega) (by omega))
  obtain ⟨ST, hST, zT, bT⟩ : ∃ S : ByteArray, S = mkS (hmsFmt T) ∧ S.size ≤ 20 ∧ byt S = hmsFmt T := ⟨_, rfl, by rw [size_mk]; have := hmsFmt_len (x := T) (by omega) (by omega); omega, byt_mk _⟩
  have FD0 : 0 ≤ D ∧ D ≤ 999 := by omega
  have FD1 := hide (fun w => dec D w FD0.1 FD0.2)
  obtain ⟨SD, hSD, zD, bD⟩ := vstr FD0.1 FD0.2
  rw [← hST] at FT0
  rw [← hSD] at FD1
  have FT := FT0
  have FD := FD1
  clear FT0 FD1 hST hSD
  replace bT := hide bT
  replace bD := hide bD
  rcases hk with ⟨rfl, d0, d1, rfl, rfl, rfl⟩ | ⟨rfl, d0, d1, rfl, rfl, rfl⟩ | ⟨rfl, rfl, m0, m1, k0, k1, v0, v1⟩
  · clear FD0
    have hb := hide (bl_new w (.cells #[.int .i64 1, .int .i64 D, .int .i64 0, .int .i64 0, .int .i64 0, .int .i64 T] 23))
    have bx := hide (Bx.new w [.int .i64 1, .int .i64 D, .int .i64 0, .int .i64 0, .int .i64 0, .int .i64 T] 23)
    go_enter Tryz.func12, Tryz.ntmps12
    go_wp2_with fail
    refine (FD.out _).mono ?_
    rintro e w1 ⟨rfl, h1⟩
    replace hb := hide (bel_next hb.out h1)
    replace bx := hide (bx.out.below h1)
    clear h1
    obtain ⟨x0, x1, x2, x3, x4, x5⟩ := cells6' bx.out
    go_wp2_with fail
    refine (FT.out _).mono ?_
    rintro e w2 ⟨rfl, h1⟩
    replace hb := hide (bel_next hb.out h1)
    clear h1
    go_wp2
    go_ret
    exact ⟨retS2 (by apply byt_inj.1; rw [byt_mk]; (repeat rw [byt_append]); rw [bD.out, bT.out]; simp [dayF, dayCore, byt]), hb.out⟩
  · clear FD0
    have hb := hide (bl_new w (.cells #[.int .i64 2, .int .i64 D, .int .i64 0, .int .i64 0, .int .i64 0, .int .i64 T] 23))
    have bx := hide (Bx.new w [.int .i64 2, .int .i64 D, .int .i64 0, .int .i64 0, .int .i64 0, .int .i64 T] 23)
    go_enter Tryz.func12, Tryz.ntmps12
    go_wp2_with fail
    refine (FD.out _).mono ?_
    rintro e w1 ⟨rfl, h1⟩
    replace hb := hide (bel_next hb.out h1)
    replace bx := hide (bx.out.below h1)
    clear h1
    obtain ⟨x0, x1, x2, x3, x4, x5⟩ := cells6' bx.out
    go_wp2_with fail
    refine (FT.out _).mono ?_
    rintro e w2 ⟨rfl, h1⟩
    replace hb := hide (bel_next hb.out h1)
    clear h1
    go_wp2
    go_ret
    exact ⟨retS2 (by apply byt_inj.1; rw [byt_mk]; (repeat rw [byt_append]); rw [bD.out, bT.out]; simp [dayF, dayCore, byt]), hb.out⟩
  · have FM := hide (fun w => dec M w (by omega) (by omega))
    have FK := hide (fun w => dec Wk w (by omega) (by omega))
    have FV := hide (fun w => dec Wd w (by omega) (by omega))
    obtain ⟨SM, hSM, zM, bM⟩ := vstr (v := M) (by omega) (by omega)
    obtain ⟨SK, hSK, zK, bK⟩ := vstr (v := Wk) (by omega) (by omega)
    obtain ⟨SV, hSV, zV, bV⟩ := vstr (v := Wd) (by omega) (by omega)
    rw [← hSM] at FM
    rw [← hSK] at FK
    rw [← hSV] at FV
    clear FD0 hSM hSK hSV
    replace bM := hide bM
    replace bK := hide bK
    replace bV := hide bV
    have hb := hide (bl_new w (.cells #[.int .i64 3, .int .i64 0, .int .i64 M, .int .i64 Wk, .int .i64 Wd, .int .i64 T] 23))
    have bx := hide (Bx.new w [.int .i64 3, .int .i64 0, .int .i64 M, .int .i64 Wk, .int .i64 Wd, .int .i64 T] 23)
    go_enter Tryz.func12, Tryz.ntmps12
    go_wp2_with fail
    refine (FD.out _).mono ?_
    rintro e w1 ⟨rfl, h1⟩
    replace hb := hide (bel_next hb.out h1)
    replace bx := hide (bx.out.below h1)
    clear h1
    obtain ⟨x0, x1, x2, x3, x4, x5⟩ := cells6' bx.out
    obtain ⟨A1, z1, y1, j1⟩ := cat ⟨#[77]⟩ SM 10 (by have : (⟨#[77]⟩ : ByteArray).size = 1 := rfl; omega) (by decide)
    obtain ⟨A2, z2, y2, j2⟩ := cat A1 ⟨#[46]⟩ 20 (by have : (⟨#[46]⟩ : ByteArray).size = 1 := rfl; omega) (by decide)
    obtain ⟨A3, z3, y3, j3⟩ := cat A2 SK 30 (by omega) (by decide)
    obtain ⟨A4, z4, y4, j4⟩ := cat A3 ⟨#[46]⟩ 40 (by have : (⟨#[46]⟩ : ByteArray).size = 1 := rfl; omega) (by decide)
    obtain ⟨A5, z5, y5, j5⟩ := cat A4 SV 50 (by omega) (by decide)
    have hA : Hid (byt A5 = 77 :: (decF M ++ 46 :: (decF Wk ++ 46 :: decF Wd))) := hide (by
      rw [y5, y4, y3, y2, y1, bM.out, bK.out, bV.out]
      simp [byt])
    clear y1 y2 y3 y4 y5 z1 z2 z3 z4
    go_upto_region 6 with fail
    clear x0 x1 x2 x3 x4 x5
    go_region_held3 (fun w' => w'.cell? ⟨w.heap.size, 0, none⟩ = some (.int .i64 3) ∧ w'.cell? ⟨w.heap.size, 1, none⟩ = some (.int .i64 0) ∧ w'.cell? ⟨w.heap.size, 2, none⟩ = some (.int .i64 M) ∧ w'.cell? ⟨w.heap.size, 3, none⟩ = some (.int .i64 Wk) ∧ w'.cell? ⟨w.heap.size, 4, none⟩ = some (.int .i64 Wd) ∧ w'.cell? ⟨w.heap.size, 5, none⟩ = some (.int .i64 T) ∧ Hid (Bx w' w.heap.size [.int .i64 3, .int .i64 0, .int .i64 M, .int .i64 Wk, .int .i64 Wd, .int .i64 T]) ∧ Hid (Below w.heap.size w w'))
      (first
        | exact ⟨(cells6' bx.out).1, (cells6' bx.out).2.1, (cells6' bx.out).2.2.1, (cells6' bx.out).2.2.2.1, (cells6' bx.out).2.2.2.2.1, (cells6' bx.out).2.2.2.2.2, bx, by first | exact hb | exact hide (bl_drew hb.out)⟩
        | (go_split_ands; refine ⟨?_, ?_, ?_, ?_, ?_, ?_, ?_, ?_⟩ <;> first | exact cellE h1' (by assumption) | exact hide (Bx.below (Hid.out (by assumption)) h1') | exact hide (bel_next (Hid.out (by assumption)) h1')))
      (first
        | (go_at_call 21; go_split_ands; with_reducible refine (FM.out _).mono ?_; rintro e w6 ⟨rfl, h1'⟩)
        | (go_at_call 21; go_split_ands; with_reducible refine (FK.out _).mono ?_; rintro e w6 ⟨rfl, h1'⟩)
        | (go_at_call 21; go_split_ands; with_reducible refine (FV.out _).mono ?_; rintro e w6 ⟨rfl, h1'⟩))
    all_goals try go_split_ands
    all_goals clear hb bx
    all_goals rename Hid (Bx _ _ _) => bx
    all_goals rename Hid (Below _ _ _) => hb
    all_goals obtain ⟨x0, x1, x2, x3, x4, x5⟩ := cells6' bx.out
    all_goals go_wp2_with fail
    all_goals refine (FT.out _).mono ?_
    all_goals rintro e w2 ⟨rfl, h1⟩
    all_goals replace hb := hide (bel_next hb.out h1)
    all_goals clear h1
    all_goals go_wp2
    all_goals go_ret
    all_goals exact ⟨retS2 (by apply byt_inj.1; rw [byt_mk]; (repeat rw [byt_append]); rw [hA.out, bT.out]; simp [dayF, dayCore, byt]), hb.out⟩
end l9_
end Go.Proofs.YtjjmkbofddbnnaaGreatDoor
