/-
  CONTRACTS of zoneinforef10 (the reference of layer 10): Format, on valid rules: what it answers is ruleF's form.
-/
import Derived.Test.YtjeclakdgmjbjaaGreatDoorRef10d
import Derived.Test.YtjeclakdgmjbjaaGreatDoorRow2
namespace Go.Proofs.YtjeclakdgmjbjaaGreatDoor
open Go.ChangeShapes Go.WideShapes Go.ChangeAt Go.RowKit
set_option linter.unusedVariables false
theorem tnFmt_l {l : List UInt8} (h : nameOk l = true) : (tnFmt l).length ≤ 257 := by
  have := (nameOk_iff.1 h).2.1
  unfold tnFmt
  split
  · omega
  · simp; omega
theorem nstr_ {l : List UInt8} (h : nameOk l = true) : ∃ S : ByteArray, S = mkS (tnFmt l) ∧ S.size ≤ 257 ∧ byt S = tnFmt l := ⟨_, rfl, by rw [size_mk]; exact tnFmt_l h, byt_mk _⟩
theorem ostr_ {x : Int} (h : offOk x) : ∃ S : ByteArray, S = mkS (hmsFmt (-x)) ∧ S.size ≤ 20 ∧ byt S = hmsFmt (-x) := ⟨_, rfl, by rw [size_mk]; have := hmsFmt_len (x := -x) (by unfold offOk at h; omega) (by unfold offOk at h; omega); omega, byt_mk _⟩
theorem dstr_ {d : RD} (h : rdOk d) : ∃ S : ByteArray, S = mkS (dayC d) ∧ S.size ≤ 100 ∧ byt S = dayC d := ⟨_, rfl, by rw [size_mk]; exact dayC_len h, byt_mk _⟩
namespace r10_
theorem fmt7 (s : ByteArray) (w : World) (hn : nameOk (byt s) = true) : Calls Tryz.prog 29 #[.string s] w fun e w' => e = .returned (.string (mkS (tnFmt (byt s)))) ∧ Below w.heap.size w w' :=
  (r7_.Format s w (by have := (nameOk_iff.1 hn).2.1; rw [len_byt] at this; omega)).mono (by rintro e w' ⟨rfl, rfl⟩; exact ⟨rfl, bl_refl _⟩)
set_option maxRecDepth 100000 in
set_option maxHeartbeats 8000000 in
theorem Format_std (std : ByteArray) (so : Int) (dst : ByteArray) (dof : Int) (st en : RD) (w : World) (hn : nameOk (byt std) = true) (hso : offOk so) :
    Calls Tryz.prog 16 #[.agg #[.string std, .int .i64 so, .bool false, .string dst, .int .i64 dof, .int .i64 st.1, .int .i64 st.2.1, .int .i64 st.2.2.1, .int .i64 st.2.2.2.1, .int .i64 st.2.2.2.2.1, .int .i64 st.2.2.2.2.2, .int .i64 en.1, .int .i64 en.2.1, .int .i64 en.2.2.1, .int .i64 en.2.2.2.1, .int .i64 en.2.2.2.2.1, .int .i64 en.2.2.2.2.2]] w fun e w' => e = .returned (.string (mkS (tnFmt (byt std) ++ hmsFmt (-so)))) ∧ Below w.heap.size w w' := by
  have FN := hide (fun w => fmt7 std w hn)
  have FO := hide (fun w => r8_.Format (-so) w (by unfold offOk at hso; omega) (by unfold offOk at hso; omega))
  obtain ⟨S1, h1, z1, b1⟩ := nstr_ hn
  obtain ⟨S2, h2, z2, b2⟩ := ostr_ hso
  rw [← h1] at FN
  rw [← h2] at FO
  have wso : IntKind.i64.wrap (-so) = -so := by unfold offOk at hso; rw [IntKind.wrap_i64]; omega
  obtain ⟨A1, y1, a1, j1⟩ := cat_ S1 S2 300 (by omega) (by decide)
  rw [b1, b2] at a1
  replace a1 := hide a1
  clear h1 h2 b1 b2
  have hb := hide (bl_new w (.cells #[.string std, .int .i64 so, .bool false, .string dst, .int .i64 dof, .int .i64 st.1, .int .i64 st.2.1, .int .i64 st.2.2.1, .int .i64 st.2.2.2.1, .int .i64 st.2.2.2.2.1, .int .i64 st.2.2.2.2.2, .int .i64 en.1, .int .i64 en.2.1, .int .i64 en.2.2.1, .int .i64 en.2.2.2.1, .int .i64 en.2.2.2.2.1, .int .i64 en.2.2.2.2.2] 25))
  have hB := hide (Ro.new w #[.string std, .int .i64 so, .bool false, .string dst, .int .i64 dof, .int .i64 st.1, .int .i64 st.2.1, .int .i64 st.2.2.1, .int .i64 st.2.2.2.1, .int .i64 st.2.2.2.2.1, .int .i64 st.2.2.2.2.2, .int .i64 en.1, .int .i64 en.2.1, .int .i64 en.2.2.1, .int .i64 en.2.2.2.1, .int .i64 en.2.2.2.2.1, .int .i64 en.2.2.2.2.2] 25)
  go_enter Tryz.func16, Tryz.ntmps16
  go_upto_region 1 with fail
  go_region_held3 (fun w' => w'.cell? ⟨w.heap.size, 0, none⟩ = some (.string std) ∧ w'.cell? ⟨w.heap.size, 1, none⟩ = some (.int .i64 so) ∧ Hid (Ro w' w.heap.size #[.string std, .int .i64 so, .bool false, .string dst, .int .i64 dof, .int .i64 st.1, .int .i64 st.2.1, .int .i64 st.2.2.1, .int .i64 st.2.2.2.1, .int .i64 st.2.2.2.2.1, .int .i64 st.2.2.2.2.2, .int .i64 en.1, .int .i64 en.2.1, .int .i64 en.2.2.1, .int .i64 en.2.2.2.1, .int .i64 en.2.2.2.2.1, .int .i64 en.2.2.2.2.2] 25) ∧ Hid (Below w.heap.size w w'))
    (first
      | exact ⟨(ro_cf hB.out 0 _ rfl).1, (ro_cf hB.out 1 _ rfl).1, hB, by first | exact hb | exact hide (bl_drew hb.out)⟩
      | (go_split_ands; refine ⟨?_, ?_, ?_, ?_⟩ <;> first | exact cellE h1' (by assumption) | exact hide (Ro.below (Hid.out (by assumption)) h1') | exact hide (bel_next (Hid.out (by assumption)) h1')))
    (first
      | (go_at_call 29; go_split_ands; with_reducible refine (FN.out _).mono ?_; rintro e w6 ⟨rfl, h1'⟩)
      | (go_at_call 25; go_split_ands; with_reducible refine (FO.out _).mono ?_; rintro e w6 ⟨rfl, h1'⟩))
  all_goals
    try go_split_ands
    clear hB hb
    rename Hid (Ro _ _ _ _) => hB
    rename Hid (Below _ _ _) => hb
    clear j1
    obtain ⟨x2, _⟩ := ro_cf hB.out 2 _ rfl
    go_wp2
    go_ret
    exact ⟨retS2 (by apply byt_inj.1; rw [byt_mk, a1.out]), hb.out⟩
set_option maxRecDepth 100000 in
set_option maxHeartbeats 8000000 in
theorem Format_1 (std : ByteArray) (so : Int) (dst : ByteArray) (dof : Int) (st en : RD) (w : World) (hn : nameOk (byt std) = true) (hso : offOk so) (hnd : nameOk (byt dst) = true) (hdo : offOk dof) (hst : rdOk st) (hen : rdOk en) (h36 : dof - so = 3600) :
    Calls Tryz.prog 16 #[.agg #[.string std, .int .i64 so, .bool true, .string dst, .int .i64 dof, .int .i64 st.1, .int .i64 st.2.1, .int .i64 st.2.2.1, .int .i64 st.2.2.2.1, .int .i64 st.2.2.2.2.1, .int .i64 st.2.2.2.2.2, .int .i64 en.1, .int .i64 en.2.1, .int .i64 en.2.2.1, .int .i64 en.2.2.2.1, .int .i64 en.2.2.2.2.1, .int .i64 en.2.2.2.2.2]] w fun e w' => e = .returned (.string (mkS (tnFmt (byt std) ++ (hmsFmt (-so) ++ (tnFmt (byt dst) ++ ([] ++ 44 :: (dayC st ++ 44 :: dayC en))))))) ∧ Below w.heap.size w w' := by
  have FN := hide (fun w => fmt7 std w hn)
  have FO := hide (fun w => r8_.Format (-so) w (by unfold offOk at hso; omega) (by unfold offOk at hso; omega))
  obtain ⟨S1, h1, z1, b1⟩ := nstr_ hn
  obtain ⟨S2, h2, z2, b2⟩ := ostr_ hso
  rw [← h1] at FN
  rw [← h2] at FO
  have wso : IntKind.i64.wrap (-so) = -so := by unfold offOk at hso; rw [IntKind.wrap_i64]; omega
  obtain ⟨A1, y1, a1, j1⟩ := cat_ S1 S2 300 (by omega) (by decide)
  rw [b1, b2] at a1
  replace a1 := hide a1
  clear h1 h2 b1 b2
  have FN2 := hide (fun w => fmt7 dst w hnd)
  have FS := hide (fun w => Day st w hst)
  have FE := hide (fun w => Day en w hen)
  unfold vday at FS FE
  obtain ⟨S3, h3, z3, b3⟩ := nstr_ hnd
  obtain ⟨SS, hs, zs, bs⟩ := dstr_ hst
  obtain ⟨SE, he, ze, be⟩ := dstr_ hen
  rw [← h3] at FN2
  rw [← hs] at FS
  rw [← he] at FE
  have wdf : IntKind.i64.wrap (dof - so) = dof - so := by unfold offOk at hso hdo; rw [IntKind.wrap_i64]; omega
  obtain ⟨A2, y2, a2, j2⟩ := cat_ A1 S3 600 (by omega) (by decide)
  rw [a1.out, b3] at a2
  replace a2 := hide a2
  have hne : (dof - so != 3600) = false := by simpa using h36
  obtain ⟨B1, u1, c1, k1⟩ := cat_ A2 ⟨#[44]⟩ 660 (by have : (⟨#[44]⟩ : ByteArray).size = 1 := rfl; omega) (by decide)
  obtain ⟨B2, u2, c2, k2⟩ := cat_ B1 SS 800 (by omega) (by decide)
  obtain ⟨B3, u3, c3, k3⟩ := cat_ B2 ⟨#[44]⟩ 810 (by have : (⟨#[44]⟩ : ByteArray).size = 1 := rfl; omega) (by decide)
  obtain ⟨B4, u4, c4, k4⟩ := cat_ B3 SE 950 (by omega) (by decide)
  rw [c3, c2, c1, a2.out, bs, be] at c4
  replace c4 := hide c4
  clear c1 c2 c3 h3 hs he b3 bs be u1 u2 u3 u4 h36
  have hb := hide (bl_new w (.cells #[.string std, .int .i64 so, .bool true, .string dst, .int .i64 dof, .int .i64 st.1, .int .i64 st.2.1, .int .i64 st.2.2.1, .int .i64 st.2.2.2.1, .int .i64 st.2.2.2.2.1, .int .i64 st.2.2.2.2.2, .int .i64 en.1, .int .i64 en.2.1, .int .i64 en.2.2.1, .int .i64 en.2.2.2.1, .int .i64 en.2.2.2.2.1, .int .i64 en.2.2.2.2.2] 25))
  have hB := hide (Ro.new w #[.string std, .int .i64 so, .bool true, .string dst, .int .i64 dof, .int .i64 st.1, .int .i64 st.2.1, .int .i64 st.2.2.1, .int .i64 st.2.2.2.1, .int .i64 st.2.2.2.2.1, .int .i64 st.2.2.2.2.2, .int .i64 en.1, .int .i64 en.2.1, .int .i64 en.2.2.1, .int .i64 en.2.2.2.1, .int .i64 en.2.2.2.2.1, .int .i64 en.2.2.2.2.2] 25)
  go_enter Tryz.func16, Tryz.ntmps16
  go_upto_region 1 with fail
  go_region_held3 (fun w' => w'.cell? ⟨w.heap.size, 0, none⟩ = some (.string std) ∧ w'.cell? ⟨w.heap.size, 1, none⟩ = some (.int .i64 so) ∧ Hid (Ro w' w.heap.size #[.string std, .int .i64 so, .bool true, .string dst, .int .i64 dof, .int .i64 st.1, .int .i64 st.2.1, .int .i64 st.2.2.1, .int .i64 st.2.2.2.1, .int .i64 st.2.2.2.2.1, .int .i64 st.2.2.2.2.2, .int .i64 en.1, .int .i64 en.2.1, .int .i64 en.2.2.1, .int .i64 en.2.2.2.1, .int .i64 en.2.2.2.2.1, .int .i64 en.2.2.2.2.2] 25) ∧ Hid (Below w.heap.size w w'))
    (first
      | exact ⟨(ro_cf hB.out 0 _ rfl).1, (ro_cf hB.out 1 _ rfl).1, hB, by first | exact hb | exact hide (bl_drew hb.out)⟩
      | (go_split_ands; refine ⟨?_, ?_, ?_, ?_⟩ <;> first | exact cellE h1' (by assumption) | exact hide (Ro.below (Hid.out (by assumption)) h1') | exact hide (bel_next (Hid.out (by assumption)) h1')))
    (first
      | (go_at_call 29; go_split_ands; with_reducible refine (FN.out _).mono ?_; rintro e w6 ⟨rfl, h1'⟩)
      | (go_at_call 25; go_split_ands; with_reducible refine (FO.out _).mono ?_; rintro e w6 ⟨rfl, h1'⟩))
  all_goals
    try go_split_ands
    clear hB hb
    rename Hid (Ro _ _ _ _) => hB
    rename Hid (Below _ _ _) => hb
    clear j1
    obtain ⟨x2, _⟩ := ro_cf hB.out 2 _ rfl
    obtain ⟨x3, _⟩ := ro_cf hB.out 3 _ rfl
    go_wp2_with fail
    refine (FN2.out _).mono ?_
    rintro e w2 ⟨rfl, h1'⟩
    replace hB := hide (hB.out.below h1')
    replace hb := hide (bel_next hb.out h1')
    clear h1' x2 x3
    obtain ⟨x1, _⟩ := ro_cf hB.out 1 _ rfl
    obtain ⟨x4, _⟩ := ro_cf hB.out 4 _ rfl
    go_upto_region 7 with fail
    clear x1 x4
    go_region_held3 (fun w' => w'.cell? ⟨w.heap.size, 5, none⟩ = some (.int .i64 st.1) ∧ w'.cell? ⟨w.heap.size, 6, none⟩ = some (.int .i64 st.2.1) ∧ w'.cell? ⟨w.heap.size, 7, none⟩ = some (.int .i64 st.2.2.1) ∧ w'.cell? ⟨w.heap.size, 8, none⟩ = some (.int .i64 st.2.2.2.1) ∧ w'.cell? ⟨w.heap.size, 9, none⟩ = some (.int .i64 st.2.2.2.2.1) ∧ w'.cell? ⟨w.heap.size, 10, none⟩ = some (.int .i64 st.2.2.2.2.2) ∧ w'.cell? ⟨w.heap.size, 11, none⟩ = some (.int .i64 en.1) ∧ w'.cell? ⟨w.heap.size, 12, none⟩ = some (.int .i64 en.2.1) ∧ w'.cell? ⟨w.heap.size, 13, none⟩ = some (.int .i64 en.2.2.1) ∧ w'.cell? ⟨w.heap.size, 14, none⟩ = some (.int .i64 en.2.2.2.1) ∧ w'.cell? ⟨w.heap.size, 15, none⟩ = some (.int .i64 en.2.2.2.2.1) ∧ w'.cell? ⟨w.heap.size, 16, none⟩ = some (.int .i64 en.2.2.2.2.2) ∧ Hid (Ro w' w.heap.size #[.string std, .int .i64 so, .bool true, .string dst, .int .i64 dof, .int .i64 st.1, .int .i64 st.2.1, .int .i64 st.2.2.1, .int .i64 st.2.2.2.1, .int .i64 st.2.2.2.2.1, .int .i64 st.2.2.2.2.2, .int .i64 en.1, .int .i64 en.2.1, .int .i64 en.2.2.1, .int .i64 en.2.2.2.1, .int .i64 en.2.2.2.2.1, .int .i64 en.2.2.2.2.2] 25) ∧ Hid (Below w.heap.size w w'))
      (first
        | exact ⟨(ro_cf hB.out 5 _ rfl).1, (ro_cf hB.out 6 _ rfl).1, (ro_cf hB.out 7 _ rfl).1, (ro_cf hB.out 8 _ rfl).1, (ro_cf hB.out 9 _ rfl).1, (ro_cf hB.out 10 _ rfl).1, (ro_cf hB.out 11 _ rfl).1, (ro_cf hB.out 12 _ rfl).1, (ro_cf hB.out 13 _ rfl).1, (ro_cf hB.out 14 _ rfl).1, (ro_cf hB.out 15 _ rfl).1, (ro_cf hB.out 16 _ rfl).1, hB, by first | exact hb | exact hide (bl_drew hb.out)⟩
        | (go_split_ands; refine ⟨?_, ?_, ?_, ?_, ?_, ?_, ?_, ?_, ?_, ?_, ?_, ?_, ?_, ?_⟩ <;> first | exact cellE h1' (by assumption) | exact hide (Ro.below (Hid.out (by assumption)) h1') | exact hide (bel_next (Hid.out (by assumption)) h1')))
      (first
        | (go_at_call 13; go_split_ands; with_reducible refine (FS.out _).mono ?_; rintro e w6 ⟨rfl, h1'⟩)
        | (go_at_call 13; go_split_ands; with_reducible refine (FE.out _).mono ?_; rintro e w6 ⟨rfl, h1'⟩))
    all_goals
      try go_split_ands
      clear hB hb
      rename Hid (Below _ _ _) => hb
      go_wp2
      go_ret
      exact ⟨retS2 (by apply byt_inj.1; rw [byt_mk, c4.out]; simp [byt]), hb.out⟩
set_option maxRecDepth 100000 in
set_option maxHeartbeats 8000000 in
theorem Format_2 (std : ByteArray) (so : Int) (dst : ByteArray) (dof : Int) (st en : RD) (w : World) (hn : nameOk (byt std) = true) (hso : offOk so) (hnd : nameOk (byt dst) = true) (hdo : offOk dof) (hst : rdOk st) (hen : rdOk en) (h36 : ¬ dof - so = 3600) :
    Calls Tryz.prog 16 #[.agg #[.string std, .int .i64 so, .bool true, .string dst, .int .i64 dof, .int .i64 st.1, .int .i64 st.2.1, .int .i64 st.2.2.1, .int .i64 st.2.2.2.1, .int .i64 st.2.2.2.2.1, .int .i64 st.2.2.2.2.2, .int .i64 en.1, .int .i64 en.2.1, .int .i64 en.2.2.1, .int .i64 en.2.2.2.1, .int .i64 en.2.2.2.2.1, .int .i64 en.2.2.2.2.2]] w fun e w' => e = .returned (.string (mkS (tnFmt (byt std) ++ (hmsFmt (-so) ++ (tnFmt (byt dst) ++ (hmsFmt (-dof) ++ 44 :: (dayC st ++ 44 :: dayC en))))))) ∧ Below w.heap.size w w' := by
  have FN := hide (fun w => fmt7 std w hn)
  have FO := hide (fun w => r8_.Format (-so) w (by unfold offOk at hso; omega) (by unfold offOk at hso; omega))
  obtain ⟨S1, h1, z1, b1⟩ := nstr_ hn
  obtain ⟨S2, h2, z2, b2⟩ := ostr_ hso
  rw [← h1] at FN
  rw [← h2] at FO
  have wso : IntKind.i64.wrap (-so) = -so := by unfold offOk at hso; rw [IntKind.wrap_i64]; omega
  obtain ⟨A1, y1, a1, j1⟩ := cat_ S1 S2 300 (by omega) (by decide)
  rw [b1, b2] at a1
  replace a1 := hide a1
  clear h1 h2 b1 b2
  have FN2 := hide (fun w => fmt7 dst w hnd)
  have FS := hide (fun w => Day st w hst)
  have FE := hide (fun w => Day en w hen)
  unfold vday at FS FE
  obtain ⟨S3, h3, z3, b3⟩ := nstr_ hnd
  obtain ⟨SS, hs, zs, bs⟩ := dstr_ hst
  obtain ⟨SE, he, ze, be⟩ := dstr_ hen
  rw [← h3] at FN2
  rw [← hs] at FS
  rw [← he] at FE
  have wdf : IntKind.i64.wrap (dof - so) = dof - so := by unfold offOk at hso hdo; rw [IntKind.wrap_i64]; omega
  obtain ⟨A2, y2, a2, j2⟩ := cat_ A1 S3 600 (by omega) (by decide)
  rw [a1.out, b3] at a2
  replace a2 := hide a2
  have FO2 := hide (fun w => r8_.Format (-dof) w (by unfold offOk at hdo; omega) (by unfold offOk at hdo; omega))
  obtain ⟨S4, h4, z4, b4⟩ := ostr_ hdo
  rw [← h4] at FO2
  have wdo : IntKind.i64.wrap (-dof) = -dof := by unfold offOk at hdo; rw [IntKind.wrap_i64]; omega
  obtain ⟨A3, y3, a3, j3⟩ := cat_ A2 S4 650 (by omega) (by decide)
  rw [a2.out, b4] at a3
  replace a3 := hide a3
  have hne : (dof - so != 3600) = true := by simpa using h36
  clear h4 b4
  obtain ⟨B1, u1, c1, k1⟩ := cat_ A3 ⟨#[44]⟩ 660 (by have : (⟨#[44]⟩ : ByteArray).size = 1 := rfl; omega) (by decide)
  obtain ⟨B2, u2, c2, k2⟩ := cat_ B1 SS 800 (by omega) (by decide)
  obtain ⟨B3, u3, c3, k3⟩ := cat_ B2 ⟨#[44]⟩ 810 (by have : (⟨#[44]⟩ : ByteArray).size = 1 := rfl; omega) (by decide)
  obtain ⟨B4, u4, c4, k4⟩ := cat_ B3 SE 950 (by omega) (by decide)
  rw [c3, c2, c1, a3.out, bs, be] at c4
  replace c4 := hide c4
  clear c1 c2 c3 h3 hs he b3 bs be u1 u2 u3 u4 h36
  have hb := hide (bl_new w (.cells #[.string std, .int .i64 so, .bool true, .string dst, .int .i64 dof, .int .i64 st.1, .int .i64 st.2.1, .int .i64 st.2.2.1, .int .i64 st.2.2.2.1, .int .i64 st.2.2.2.2.1, .int .i64 st.2.2.2.2.2, .int .i64 en.1, .int .i64 en.2.1, .int .i64 en.2.2.1, .int .i64 en.2.2.2.1, .int .i64 en.2.2.2.2.1, .int .i64 en.2.2.2.2.2] 25))
  have hB := hide (Ro.new w #[.string std, .int .i64 so, .bool true, .string dst, .int .i64 dof, .int .i64 st.1, .int .i64 st.2.1, .int .i64 st.2.2.1, .int .i64 st.2.2.2.1, .int .i64 st.2.2.2.2.1, .int .i64 st.2.2.2.2.2, .int .i64 en.1, .int .i64 en.2.1, .int .i64 en.2.2.1, .int .i64 en.2.2.2.1, .int .i64 en.2.2.2.2.1, .int .i64 en.2.2.2.2.2] 25)
  go_enter Tryz.func16, Tryz.ntmps16
  go_upto_region 1 with fail
  go_region_held3 (fun w' => w'.cell? ⟨w.heap.size, 0, none⟩ = some (.string std) ∧ w'.cell? ⟨w.heap.size, 1, none⟩ = some (.int .i64 so) ∧ Hid (Ro w' w.heap.size #[.string std, .int .i64 so, .bool true, .string dst, .int .i64 dof, .int .i64 st.1, .int .i64 st.2.1, .int .i64 st.2.2.1, .int .i64 st.2.2.2.1, .int .i64 st.2.2.2.2.1, .int .i64 st.2.2.2.2.2, .int .i64 en.1, .int .i64 en.2.1, .int .i64 en.2.2.1, .int .i64 en.2.2.2.1, .int .i64 en.2.2.2.2.1, .int .i64 en.2.2.2.2.2] 25) ∧ Hid (Below w.heap.size w w'))
    (first
      | exact ⟨(ro_cf hB.out 0 _ rfl).1, (ro_cf hB.out 1 _ rfl).1, hB, by first | exact hb | exact hide (bl_drew hb.out)⟩
      | (go_split_ands; refine ⟨?_, ?_, ?_, ?_⟩ <;> first | exact cellE h1' (by assumption) | exact hide (Ro.below (Hid.out (by assumption)) h1') | exact hide (bel_next (Hid.out (by assumption)) h1')))
    (first
      | (go_at_call 29; go_split_ands; with_reducible refine (FN.out _).mono ?_; rintro e w6 ⟨rfl, h1'⟩)
      | (go_at_call 25; go_split_ands; with_reducible refine (FO.out _).mono ?_; rintro e w6 ⟨rfl, h1'⟩))
  all_goals
    try go_split_ands
    clear hB hb
    rename Hid (Ro _ _ _ _) => hB
    rename Hid (Below _ _ _) => hb
    clear j1
    obtain ⟨x2, _⟩ := ro_cf hB.out 2 _ rfl
    obtain ⟨x3, _⟩ := ro_cf hB.out 3 _ rfl
    go_wp2_with fail
    refine (FN2.out _).mono ?_
    rintro e w2 ⟨rfl, h1'⟩
    replace hB := hide (hB.out.below h1')
    replace hb := hide (bel_next hb.out h1')
    clear h1' x2 x3
    obtain ⟨x1, _⟩ := ro_cf hB.out 1 _ rfl
    obtain ⟨x4, _⟩ := ro_cf hB.out 4 _ rfl
    go_wp2_with fail
    refine (FO2.out _).mono ?_
    rintro e w3 ⟨rfl, h1'⟩
    replace hB := hide (hB.out.below h1')
    replace hb := hide (bel_next hb.out h1')
    clear h1'
    go_upto_region 7 with fail
    clear x1 x4
    go_region_held3 (fun w' => w'.cell? ⟨w.heap.size, 5, none⟩ = some (.int .i64 st.1) ∧ w'.cell? ⟨w.heap.size, 6, none⟩ = some (.int .i64 st.2.1) ∧ w'.cell? ⟨w.heap.size, 7, none⟩ = some (.int .i64 st.2.2.1) ∧ w'.cell? ⟨w.heap.size, 8, none⟩ = some (.int .i64 st.2.2.2.1) ∧ w'.cell? ⟨w.heap.size, 9, none⟩ = some (.int .i64 st.2.2.2.2.1) ∧ w'.cell? ⟨w.heap.size, 10, none⟩ = some (.int .i64 st.2.2.2.2.2) ∧ w'.cell? ⟨w.heap.size, 11, none⟩ = some (.int .i64 en.1) ∧ w'.cell? ⟨w.heap.size, 12, none⟩ = some (.int .i64 en.2.1) ∧ w'.cell? ⟨w.heap.size, 13, none⟩ = some (.int .i64 en.2.2.1) ∧ w'.cell? ⟨w.heap.size, 14, none⟩ = some (.int .i64 en.2.2.2.1) ∧ w'.cell? ⟨w.heap.size, 15, none⟩ = some (.int .i64 en.2.2.2.2.1) ∧ w'.cell? ⟨w.heap.size, 16, none⟩ = some (.int .i64 en.2.2.2.2.2) ∧ Hid (Ro w' w.heap.size #[.string std, .int .i64 so, .bool true, .string dst, .int .i64 dof, .int .i64 st.1, .int .i64 st.2.1, .int .i64 st.2.2.1, .int .i64 st.2.2.2.1, .int .i64 st.2.2.2.2.1, .int .i64 st.2.2.2.2.2, .int .i64 en.1, .int .i64 en.2.1, .int .i64 en.2.2.1, .int .i64 en.2.2.2.1, .int .i64 en.2.2.2.2.1, .int .i64 en.2.2.2.2.2] 25) ∧ Hid (Below w.heap.size w w'))
      (first
        | exact ⟨(ro_cf hB.out 5 _ rfl).1, (ro_cf hB.out 6 _ rfl).1, (ro_cf hB.out 7 _ rfl).1, (ro_cf hB.out 8 _ rfl).1, (ro_cf hB.out 9 _ rfl).1, (ro_cf hB.out 10 _ rfl).1, (ro_cf hB.out 11 _ rfl).1, (ro_cf hB.out 12 _ rfl).1, (ro_cf hB.out 13 _ rfl).1, (ro_cf hB.out 14 _ rfl).1, (ro_cf hB.out 15 _ rfl).1, (ro_cf hB.out 16 _ rfl).1, hB, by first | exact hb | exact hide (bl_drew hb.out)⟩
        | (go_split_ands; refine ⟨?_, ?_, ?_, ?_, ?_, ?_, ?_, ?_, ?_, ?_, ?_, ?_, ?_, ?_⟩ <;> first | exact cellE h1' (by assumption) | exact hide (Ro.below (Hid.out (by assumption)) h1') | exact hide (bel_next (Hid.out (by assumption)) h1')))
      (first
        | (go_at_call 13; go_split_ands; with_reducible refine (FS.out _).mono ?_; rintro e w6 ⟨rfl, h1'⟩)
        | (go_at_call 13; go_split_ands; with_reducible refine (FE.out _).mono ?_; rintro e w6 ⟨rfl, h1'⟩))
    all_goals
      try go_split_ands
      clear hB hb
      rename Hid (Below _ _ _) => hb
      go_wp2
      go_ret
      exact ⟨retS2 (by apply byt_inj.1; rw [byt_mk, c4.out]; simp [byt]), hb.out⟩
theorem Format (std : ByteArray) (so : Int) (hd : Bool) (dst : ByteArray) (dof : Int) (st en : RD) (w : World) (hp : prOk (byt std, so, hd, byt dst, dof, st, en)) :
    Calls Tryz.prog 16 #[vrule std so hd dst dof st en] w fun e w' => e = .returned (.string (mkS (ruleF (byt std, so, hd, byt dst, dof, st, en)))) ∧ Below w.heap.size w w' := by
  obtain ⟨hn, hso, hr⟩ := hp
  simp only at hn hso hr
  unfold vrule ruleF
  cases hd
  · simp only [Bool.false_eq_true, if_false, List.append_nil]
    exact Format_std std so dst dof st en w hn hso
  · simp only [if_true] at hr ⊢
    obtain ⟨hnd, hdo, hst, hen⟩ := hr
    by_cases h36 : dof - so = 3600
    · rw [if_pos h36]
      exact Format_1 std so dst dof st en w hn hso hnd hdo hst hen h36
    · rw [if_neg h36]
      exact Format_2 std so dst dof st en w hn hso hnd hdo hst hen h36
end r10_
end Go.Proofs.YtjeclakdgmjbjaaGreatDoor
