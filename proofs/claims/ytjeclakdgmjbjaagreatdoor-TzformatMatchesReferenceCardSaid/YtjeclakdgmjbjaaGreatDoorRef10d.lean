/-
  CONTRACTS of zoneinforef10 (the reference of layer 10): Day, on valid rule days. No conditions beyond what it states.
-/
import Derived.Test.YtjeclakdgmjbjaaGreatDoorRef10
import Derived.Test.YtjeclakdgmjbjaaGreatDoorTfMath
namespace Go.Proofs.YtjeclakdgmjbjaaGreatDoor
open Go.ChangeShapes Go.WideShapes Go.ChangeAt Go.RowKit
set_option linter.unusedVariables false
theorem vstr_ {v : Int} (h0 : 0 ≤ v) (h1 : v ≤ 999) : ∃ S : ByteArray, S = mkS (decF v) ∧ S.size ≤ 3 ∧ byt S = decF v := ⟨_, rfl, by rw [size_mk]; exact (decF_is h0 h1).2.2.2, byt_mk _⟩
namespace r10_
set_option maxRecDepth 100000 in
set_option maxHeartbeats 4000000 in
theorem Day (d : RD) (w : World) (hd : rdOk d) : Calls Tryz.prog 13 #[vday d] w fun e w' => e = .returned (.string (mkS (dayC d))) ∧ Below w.heap.size w w' := by
  obtain ⟨K, D, M, Wk, Wd, T⟩ := d
  obtain ⟨t0, t1, hk⟩ := hd
  unfold vday
  simp only at t0 t1 hk ⊢
  have FT := hide (fun w => r8_.Format T w (by omega) (by omega))
  obtain ⟨ST, hST, zT, bT⟩ : ∃ S : ByteArray, S = mkS (hmsFmt T) ∧ S.size ≤ 20 ∧ byt S = hmsFmt T := ⟨_, rfl, by rw [size_mk]; have := hmsFmt_len (x := T) (by omega) (by omega); omega, byt_mk _⟩
  have FD0 : 0 ≤ D ∧ D ≤ 999 := by omega
  have FD := hide (fun w => dec D w FD0.1 FD0.2)
  obtain ⟨SD, hSD, zD, bD⟩ := vstr_ FD0.1 FD0.2
  rw [← hST] at FT
  rw [← hSD] at FD
  clear hST hSD
  replace bT := hide bT
  replace bD := hide bD
  rcases hk with ⟨rfl, d0, d1, rfl, rfl, rfl⟩ | ⟨rfl, d0, d1, rfl, rfl, rfl⟩ | ⟨rfl, rfl, m0, m1, k0, k1, v0, v1⟩
  · clear FD0
    have hb := hide (bl_new w (.cells #[.int .i64 1, .int .i64 D, .int .i64 0, .int .i64 0, .int .i64 0, .int .i64 T] 23))
    have bx := hide (Bx.new w [.int .i64 1, .int .i64 D, .int .i64 0, .int .i64 0, .int .i64 0, .int .i64 T] 23)
    obtain ⟨x0, x1, x2, x3, x4, x5⟩ := cells6' bx.out
    go_enter Tryz.func13, Tryz.ntmps13
    go_wp2_with fail
    refine (FD.out _).mono ?_
    rintro e w1 ⟨rfl, h1⟩
    clear x0 x1 x2 x3 x4 x5
    replace hb := hide (bel_next hb.out h1)
    replace bx := hide (bx.out.below h1)
    clear h1
    obtain ⟨x0, x1, x2, x3, x4, x5⟩ := cells6' bx.out
    by_cases hT : T = 7200
    · have hT1 : (T != 7200) = false := by simpa using hT
      replace hT := hide hT
      go_wp2
      go_ret
      exact ⟨retS2 (by apply byt_inj.1; rw [byt_mk]; (repeat rw [byt_append]); rw [bD.out]; simp [dayC, dayCore, byt, hT.out]), hb.out⟩
    · have hT1 : (T != 7200) = true := by simpa using hT
      replace hT := hide hT
      go_wp2_with fail
      refine (FT.out _).mono ?_
      rintro e w2 ⟨rfl, h1⟩
      replace hb := hide (bel_next hb.out h1)
      clear h1
      go_wp2
      go_ret
      exact ⟨retS2 (by apply byt_inj.1; rw [byt_mk]; (repeat rw [byt_append]); rw [bD.out, bT.out]; simp [dayC, dayCore, byt, hT.out]), hb.out⟩
  · clear FD0
    have hb := hide (bl_new w (.cells #[.int .i64 2, .int .i64 D, .int .i64 0, .int .i64 0, .int .i64 0, .int .i64 T] 23))
    have bx := hide (Bx.new w [.int .i64 2, .int .i64 D, .int .i64 0, .int .i64 0, .int .i64 0, .int .i64 T] 23)
    obtain ⟨x0, x1, x2, x3, x4, x5⟩ := cells6' bx.out
    go_enter Tryz.func13, Tryz.ntmps13
    go_wp2_with fail
    refine (FD.out _).mono ?_
    rintro e w1 ⟨rfl, h1⟩
    clear x0 x1 x2 x3 x4 x5
    replace hb := hide (bel_next hb.out h1)
    replace bx := hide (bx.out.below h1)
    clear h1
    obtain ⟨x0, x1, x2, x3, x4, x5⟩ := cells6' bx.out
    by_cases hT : T = 7200
    · have hT1 : (T != 7200) = false := by simpa using hT
      replace hT := hide hT
      go_wp2
      go_ret
      exact ⟨retS2 (by apply byt_inj.1; rw [byt_mk]; rw [bD.out]; simp [dayC, dayCore, hT.out]), hb.out⟩
    · have hT1 : (T != 7200) = true := by simpa using hT
      replace hT := hide hT
      go_wp2_with fail
      refine (FT.out _).mono ?_
      rintro e w2 ⟨rfl, h1⟩
      replace hb := hide (bel_next hb.out h1)
      clear h1
      go_wp2
      go_ret
      exact ⟨retS2 (by apply byt_inj.1; rw [byt_mk]; (repeat rw [byt_append]); rw [bD.out, bT.out]; simp [dayC, dayCore, byt, hT.out]), hb.out⟩
  · have FM := hide (fun w => dec M w (by omega) (by omega))
    have FK := hide (fun w => dec Wk w (by omega) (by omega))
    have FV := hide (fun w => dec Wd w (by omega) (by omega))
    obtain ⟨SM, hSM, zM, bM⟩ := vstr_ (v := M) (by omega) (by omega)
    obtain ⟨SK, hSK, zK, bK⟩ := vstr_ (v := Wk) (by omega) (by omega)
    obtain ⟨SV, hSV, zV, bV⟩ := vstr_ (v := Wd) (by omega) (by omega)
    rw [← hSM] at FM
    rw [← hSK] at FK
    rw [← hSV] at FV
    clear FD0 hSM hSK hSV
    replace bM := hide bM
    replace bK := hide bK
    replace bV := hide bV
    have hb := hide (bl_new w (.cells #[.int .i64 3, .int .i64 0, .int .i64 M, .int .i64 Wk, .int .i64 Wd, .int .i64 T] 23))
    have bx := hide (Bx.new w [.int .i64 3, .int .i64 0, .int .i64 M, .int .i64 Wk, .int .i64 Wd, .int .i64 T] 23)
    obtain ⟨x0, x1, x2, x3, x4, x5⟩ := cells6' bx.out
    go_enter Tryz.func13, Tryz.ntmps13
    go_wp2_with fail
    refine (FD.out _).mono ?_
    rintro e w1 ⟨rfl, h1⟩
    clear x0 x1 x2 x3 x4 x5
    replace hb := hide (bel_next hb.out h1)
    replace bx := hide (bx.out.below h1)
    clear h1
    obtain ⟨x0, x1, x2, x3, x4, x5⟩ := cells6' bx.out
    obtain ⟨A1, z1, y1, j1⟩ := cat_ ⟨#[77]⟩ SM 10 (by have : (⟨#[77]⟩ : ByteArray).size = 1 := rfl; omega) (by decide)
    obtain ⟨A2, z2, y2, j2⟩ := cat_ A1 ⟨#[46]⟩ 20 (by have : (⟨#[46]⟩ : ByteArray).size = 1 := rfl; omega) (by decide)
    obtain ⟨A3, z3, y3, j3⟩ := cat_ A2 SK 30 (by omega) (by decide)
    obtain ⟨A4, z4, y4, j4⟩ := cat_ A3 ⟨#[46]⟩ 40 (by have : (⟨#[46]⟩ : ByteArray).size = 1 := rfl; omega) (by decide)
    obtain ⟨A5, z5, y5, j5⟩ := cat_ A4 SV 50 (by omega) (by decide)
    have hA : Hid (byt A5 = 77 :: (decF M ++ 46 :: (decF Wk ++ 46 :: decF Wd))) := hide (by
      rw [y5, y4, y3, y2, y1, bM.out, bK.out, bV.out]
      simp [byt])
    clear y1 y2 y3 y4 y5 z1 z2 z3 z4
    go_upto_region 5 with fail
    clear x0 x1 x2 x3 x4 x5
    go_region_held3 (fun w' => w'.cell? ⟨w.heap.size, 0, none⟩ = some (.int .i64 3) ∧ w'.cell? ⟨w.heap.size, 1, none⟩ = some (.int .i64 0) ∧ w'.cell? ⟨w.heap.size, 2, none⟩ = some (.int .i64 M) ∧ w'.cell? ⟨w.heap.size, 3, none⟩ = some (.int .i64 Wk) ∧ w'.cell? ⟨w.heap.size, 4, none⟩ = some (.int .i64 Wd) ∧ w'.cell? ⟨w.heap.size, 5, none⟩ = some (.int .i64 T) ∧ Hid (Bx w' w.heap.size [.int .i64 3, .int .i64 0, .int .i64 M, .int .i64 Wk, .int .i64 Wd, .int .i64 T]) ∧ Hid (Below w.heap.size w w'))
      (first
        | exact ⟨(cells6' bx.out).1, (cells6' bx.out).2.1, (cells6' bx.out).2.2.1, (cells6' bx.out).2.2.2.1, (cells6' bx.out).2.2.2.2.1, (cells6' bx.out).2.2.2.2.2, bx, by first | exact hb | exact hide (bl_drew hb.out)⟩
        | (go_split_ands; refine ⟨?_, ?_, ?_, ?_, ?_, ?_, ?_, ?_⟩ <;> first | exact cellE h1' (by assumption) | exact hide (Bx.below (Hid.out (by assumption)) h1') | exact hide (bel_next (Hid.out (by assumption)) h1')))
      (first
        | (go_at_call 24; go_split_ands; with_reducible refine (FM.out _).mono ?_; rintro e w6 ⟨rfl, h1'⟩)
        | (go_at_call 24; go_split_ands; with_reducible refine (FK.out _).mono ?_; rintro e w6 ⟨rfl, h1'⟩)
        | (go_at_call 24; go_split_ands; with_reducible refine (FV.out _).mono ?_; rintro e w6 ⟨rfl, h1'⟩))
    all_goals
      try go_split_ands
      clear bx hb
      rename Hid (Bx _ _ _) => bx
      rename Hid (Below _ _ _) => hb
      clear j1 j2 j3 j4 j5
      obtain ⟨x0, x1, x2, x3, x4, x5⟩ := cells6' bx.out
      by_cases hT : T = 7200
      · have hT1 : (T != 7200) = false := by simpa using hT
        replace hT := hide hT
        go_wp2
        go_ret
        exact ⟨retS2 (by apply byt_inj.1; rw [byt_mk]; rw [hA.out]; simp [dayC, dayCore, hT.out]), hb.out⟩
      · have hT1 : (T != 7200) = true := by simpa using hT
        replace hT := hide hT
        go_wp2_with fail
        refine (FT.out _).mono ?_
        rintro e w2 ⟨rfl, h1⟩
        replace hb := hide (bel_next hb.out h1)
        clear h1
        go_wp2
        go_ret
        exact ⟨retS2 (by apply byt_inj.1; rw [byt_mk]; (repeat rw [byt_append]); rw [hA.out, bT.out]; simp [dayC, dayCore, byt, hT.out]), hb.out⟩
end r10_
end Go.Proofs.YtjeclakdgmjbjaaGreatDoor
