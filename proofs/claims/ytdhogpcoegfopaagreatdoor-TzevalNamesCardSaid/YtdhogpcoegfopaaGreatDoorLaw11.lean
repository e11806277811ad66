/-
  THE TABLE OF THE MONTHS' LENGTHS out of the eight tables that a row of this seat lists. No conditions.
  THE WALKS OF THE LAWS OF LAYER 11 (zoneinfolaw11): awake. No conditions beyond the tables'.
-/
import Derived.Test.YtdhogpcoegfopaaGreatDoorTab
import Derived.Test.YtdhogpcoegfopaaGreatDoorRows
import Derived.Stop.LaidErr
import Derived.Test.YtdhogpcoegfopaaGreatDoorTe
import Derived.Test.YtdhogpcoegfopaaGreatDoorPo
import Derived.Test.YtdhogpcoegfopaaGreatDoorRef9
namespace Go.Proofs.YtdhogpcoegfopaaGreatDoor
open Go.ChangeShapes Go.WideShapes Go.ChangeAt Go.RowKit
set_option linter.unusedVariables false
theorem te_of {W : World} (h : laidMetH Tryz.prog [("math/bits.deBruijn32tab", Rows.laid_math_bits_deBruijn32tab), ("math/bits.deBruijn64tab", Rows.laid_math_bits_deBruijn64tab), ("internal/strconv.uint64pow10", Rows.laid_internal_strconv_uint64pow10), ("unicode/utf8.acceptRanges", Rows.laid_unicode_utf8_acceptRanges), ("zoneinfo/civil.monthLengths", Rows.laid_zoneinfo_civil_monthLengths), ("strconv.ErrRange", Rows.laid_strconv_ErrRange), ("strconv.ErrSyntax", Rows.laid_strconv_ErrSyntax), ("unicode/utf8.first", Rows.laid_unicode_utf8_first)] W) : Tb W := by
  rw [MakeChecks.laidMetH_plain _ _ _ (by kernel_rfl)] at h
  have hg : Tryz.prog.globalNamed "zoneinfo/civil.monthLengths" = some 0 := by kernel_rfl
  have t := Lib.tabIs_of_head (k := .i64) (zs := [31, 28, 31, 30, 31, 30, 31, 31, 30, 31, 30, 31]) hg (by kernel_rfl) Tryz.underlying124 Tryz.underlying3 (by kernel_rfl) (by kernel_rfl) h.tail.tail.tail.tail
  have key : ∀ (i : Nat) (v : Int), ([31, 28, 31, 30, 31, 30, 31, 31, 30, 31, 30, 31] : List Int)[i]? = some v → W.cell? ⟨0, i, none⟩ = some (.int .i64 v) := by
    intro i v hi
    have hl := (List.getElem?_eq_some_iff.1 hi).1
    have := t.cell hg i hl
    rwa [List.getD_eq_getElem?_getD, hi] at this
  exact ⟨cell_lt (key 0 31 rfl), key⟩
end Go.Proofs.YtdhogpcoegfopaaGreatDoor
namespace Go.Proofs.YtdhogpcoegfopaaGreatDoor
open Go.ChangeShapes Go.WideShapes Go.ChangeAt Go.RowKit
set_option linter.unusedVariables false
namespace l11_
theorem rv_us : RvOk true (-18000) (-14400) usS usE := fun _ => ⟨usOk.1, usOk.2.1, by decide, by decide⟩
theorem rv_al : RvOk true (-18000) (-14400) alS alE := fun _ => ⟨usOk.2.2.1, usOk.2.2.2, by decide, by decide⟩
theorem rv_no (so dof : Int) (st en : RD) : RvOk false so dof st en := fun h => by cases h
set_option maxRecDepth 100000 in
set_option maxHeartbeats 8000000 in
theorem awake (w : World) (hT : Tb w) : Calls Tryz.prog 8 #[] w fun e w' => e = .returned (.bool true) ∧ Below w.heap.size w w' := by
  have P1 := hide (fun w => po_.Parse ⟨#[69, 83, 84, 53, 69, 68, 84, 44, 77, 51, 46, 50, 46, 48, 44, 77, 49, 49, 46, 49, 46, 48]⟩ w (by decide))
  rw [show ptRes (ptParse (byt ⟨#[69, 83, 84, 53, 69, 68, 84, 44, 77, 51, 46, 50, 46, 48, 44, 77, 49, 49, 46, 49, 46, 48]⟩)) = .tuple #[.agg (crule ⟨#[69, 83, 84]⟩ (-18000) true ⟨#[69, 68, 84]⟩ (-14400) usS usE), .int .i64 0, .int .i64 0] by rfl] at P1
  have P2 := hide (fun w => po_.Parse ⟨#[69, 83, 84, 53, 69, 68, 84, 44, 48, 47, 48, 44, 74, 51, 54, 53, 47, 50, 53]⟩ w (by decide))
  rw [show ptRes (ptParse (byt ⟨#[69, 83, 84, 53, 69, 68, 84, 44, 48, 47, 48, 44, 74, 51, 54, 53, 47, 50, 53]⟩)) = .tuple #[.agg (crule ⟨#[69, 83, 84]⟩ (-18000) true ⟨#[69, 68, 84]⟩ (-14400) alS alE), .int .i64 0, .int .i64 0] by rfl] at P2
  have P3 := hide (fun w => po_.Parse ⟨#[85, 84, 67, 48]⟩ w (by decide))
  rw [show ptRes (ptParse (byt ⟨#[85, 84, 67, 48]⟩)) = .tuple #[.agg (crule ⟨#[85, 84, 67]⟩ 0 false ⟨#[]⟩ 0 rd0 rd0), .int .i64 0, .int .i64 0] by rfl] at P3
  have V1 := hide (fun w => r9_.Valid ⟨#[69, 83, 84]⟩ (-18000) true ⟨#[69, 68, 84]⟩ (-14400) usS usE w (by decide) (by decide))
  rw [show decide (prOk (byt ⟨#[69, 83, 84]⟩, (-18000 : Int), true, byt ⟨#[69, 68, 84]⟩, (-14400 : Int), usS, usE)) = true by rfl, vrule_c] at V1
  have V2 := hide (fun w => r9_.Valid ⟨#[69, 83, 84]⟩ (-18000) true ⟨#[69, 68, 84]⟩ (-14400) alS alE w (by decide) (by decide))
  rw [show decide (prOk (byt ⟨#[69, 83, 84]⟩, (-18000 : Int), true, byt ⟨#[69, 68, 84]⟩, (-14400 : Int), alS, alE)) = true by rfl, vrule_c] at V2
  have V3 := hide (fun w => r9_.Valid ⟨#[85, 84, 67]⟩ 0 false ⟨#[]⟩ 0 rd0 rd0 w (by decide) (by decide))
  rw [show decide (prOk (byt ⟨#[85, 84, 67]⟩, (0 : Int), false, byt ⟨#[]⟩, (0 : Int), rd0, rd0)) = true by rfl, vrule_c] at V3
  have H1 := hide (fun w hT => te_.Changes ⟨#[69, 83, 84]⟩ (-18000) ⟨#[69, 68, 84]⟩ (-14400) usS usE 2024 w hT usOk.1 usOk.2.1 (by decide) (by decide) (by decide) (by decide))
  rw [us_v.2.1, us_v.2.2.2.2, show vin 1710054000 = .agg #[.int .i64 19792, .int .i64 25200] by rfl, show vin 1730613600 = .agg #[.int .i64 20030, .int .i64 21600] by rfl] at H1
  have N1 := hide (fun w hT => te_.Next ⟨#[69, 83, 84]⟩ (-18000) true ⟨#[69, 68, 84]⟩ (-14400) usS usE 1710053999 1710054000 true w hT (by decide) (by decide) rv_us us_n1)
  have N2 := hide (fun w hT => te_.Next ⟨#[69, 83, 84]⟩ (-18000) true ⟨#[69, 68, 84]⟩ (-14400) usS usE 1710054000 1730613600 true w hT (by decide) (by decide) rv_us us_n2)
  have N3 := hide (fun w hT => te_.Next ⟨#[85, 84, 67]⟩ 0 false ⟨#[]⟩ 0 rd0 rd0 0 0 false w hT (by decide) (by decide) (rv_no _ _ _ _) (no_no _ _ _ _ _))
  have N4 := hide (fun w hT => te_.Next ⟨#[69, 83, 84]⟩ (-18000) true ⟨#[69, 68, 84]⟩ (-14400) alS alE 0 0 false w hT (by decide) (by decide) rv_al (al_no _))
  have A1 := hide (fun w hT => te_.At ⟨#[69, 83, 84]⟩ (-18000) true ⟨#[69, 68, 84]⟩ (-14400) usS usE 1710053999 false w hT (by decide) (by decide) (by decide) rv_us ⟨(fun h => by cases h), fun h => absurd h.2 (us_off (t := 1710053999) (by omega) (by omega))⟩)
  have A2 := hide (fun w hT => te_.At ⟨#[69, 83, 84]⟩ (-18000) true ⟨#[69, 68, 84]⟩ (-14400) usS usE 1710054000 true w hT (by decide) (by decide) (by decide) rv_us ⟨fun _ => ⟨rfl, us_on (t := 1710054000) (by omega) (by omega)⟩, fun _ => rfl⟩)
  have A3 := hide (fun w hT => te_.At ⟨#[69, 83, 84]⟩ (-18000) true ⟨#[69, 68, 84]⟩ (-14400) alS alE 1704085200 true w hT (by decide) (by decide) (by decide) rv_al ⟨fun _ => ⟨rfl, al_on _⟩, fun _ => rfl⟩)
  have A4 := hide (fun w hT => te_.At ⟨#[85, 84, 67]⟩ 0 false ⟨#[]⟩ 0 rd0 rd0 (-9223372036854775808) false w hT (by decide) (by decide) (by decide) (rv_no _ _ _ _) ⟨(fun h => by cases h), fun h => absurd h ruleS_no⟩)
  simp only [vres, Bool.false_eq_true, if_false, if_true] at A1 A2 A3 A4
  have C1 := hide (fun w (hT : Tb w) => te_.Compare 19792 25200 20030 21600 w)
  rw [show cmpI 19792 25200 20030 21600 = -1 by decide] at C1
  have C2 := hide (fun w (hT : Tb w) => te_.Compare 20030 21600 20030 21600 w)
  rw [show cmpI 20030 21600 20030 21600 = 0 by decide] at C2
  have q1 : ∀ w, (binOp .eql 29 (.agg #[.bool true, .int .i64 (-18000), .bool false, .string ⟨#[69, 83, 84]⟩]) (.agg #[.bool true, .int .i64 (-18000), .bool false, .string ⟨#[69, 83, 84]⟩])).run Tryz.prog w = .ok (.bool true) w := fun w => by simp [go_sem]
  have q2 : ∀ w, (binOp .eql 29 (.agg #[.bool true, .int .i64 (-14400), .bool true, .string ⟨#[69, 68, 84]⟩]) (.agg #[.bool true, .int .i64 (-14400), .bool true, .string ⟨#[69, 68, 84]⟩])).run Tryz.prog w = .ok (.bool true) w := fun w => by simp [go_sem]
  have f1 : ∀ w, (Instr.field 29 (.agg #[.bool true, .int .i64 (-14400), .bool true, .string ⟨#[69, 68, 84]⟩]) 2).run Tryz.prog w = .ok (.bool true) w := fun _ => rfl
  have f2 : ∀ w, (Instr.field 29 (.agg #[.bool true, .int .i64 0, .bool false, .string ⟨#[85, 84, 67]⟩]) 3).run Tryz.prog w = .ok (.string ⟨#[85, 84, 67]⟩) w := fun _ => rfl
  have G1 := gr_rule ⟨#[69, 83, 84]⟩ (-18000) true ⟨#[69, 68, 84]⟩ (-14400) usS usE
  have G2 := gr_rule ⟨#[69, 83, 84]⟩ (-18000) true ⟨#[69, 68, 84]⟩ (-14400) alS alE
  have G3 := gr_rule ⟨#[85, 84, 67]⟩ 0 false ⟨#[]⟩ 0 rd0 rd0
  obtain ⟨ru, hru⟩ : ∃ r, crule ⟨#[69, 83, 84]⟩ (-18000) true ⟨#[69, 68, 84]⟩ (-14400) usS usE = r := ⟨_, rfl⟩
  obtain ⟨ra, hra⟩ : ∃ r, crule ⟨#[69, 83, 84]⟩ (-18000) true ⟨#[69, 68, 84]⟩ (-14400) alS alE = r := ⟨_, rfl⟩
  obtain ⟨rn, hrn⟩ : ∃ r, crule ⟨#[85, 84, 67]⟩ 0 false ⟨#[]⟩ 0 rd0 rd0 = r := ⟨_, rfl⟩
  have e1 : ru[2]? = some (.bool true) := by rw [← hru]; rfl
  have e2 : ra[2]? = some (.bool true) := by rw [← hra]; rfl
  rw [hru] at P1 V1 H1 N1 N2 A1 A2 G1
  rw [hra] at P2 V2 N4 A3 G2
  rw [hrn] at P3 V3 N3 A4 G3
  clear hru hra hrn
  have HT := hide hT
  have hb := hide (Below.refl w.heap.size w)
  clear hT
  go_enter Tryz.func8, Tryz.ntmps8
  go_wp2_with fail
  refine (P1.out _).mono ?_
  rintro e w1 ⟨rfl, h1⟩
  replace HT := hide (HT.out.below h1)
  replace hb := hide (bel_next hb.out h1)
  clear h1
  go_upto_region 2 with (refine wpList_store_row rfl 25 _ _ rfl _ _ rfl rfl _ _ (heap_alloc_last _ _) G1.1 (by rw [G1.2.1]; rfl) G1.2.2 ?_; rw [World.setRow_alloc_new])
  have bU := hide (Ro.new w1 ru 25)
  replace HT := hide (HT.out.below (bl_new w1 (.cells ru 25)))
  replace hb := hide (bl_alloc hb.out (.cells ru 25))
  generalize w1.heap.size = gU at *
  generalize w1.alloc (.cells ru 25) = u at *
  go_wp2_with fail
  refine (P2.out _).mono ?_
  rintro e w1 ⟨rfl, h1⟩
  replace bU := hide (bU.out.below h1)
  replace HT := hide (HT.out.below h1)
  replace hb := hide (bel_next hb.out h1)
  clear h1
  go_upto_region 3 with (refine wpList_store_row rfl 25 _ _ rfl _ _ rfl rfl _ _ (heap_alloc_last _ _) G2.1 (by rw [G2.2.1]; rfl) G2.2.2 ?_; rw [World.setRow_alloc_new])
  have bA := hide (Ro.new w1 ra 25)
  replace bU := hide (bU.out.alloc (.cells ra 25))
  replace HT := hide (HT.out.below (bl_new w1 (.cells ra 25)))
  replace hb := hide (bl_alloc hb.out (.cells ra 25))
  generalize w1.heap.size = gA at *
  generalize w1.alloc (.cells ra 25) = u at *
  go_wp2_with fail
  refine (P3.out _).mono ?_
  rintro e w1 ⟨rfl, h1⟩
  replace bU := hide (bU.out.below h1)
  replace bA := hide (bA.out.below h1)
  replace HT := hide (HT.out.below h1)
  replace hb := hide (bel_next hb.out h1)
  clear h1
  go_upto_region 4 with (refine wpList_store_row rfl 25 _ _ rfl _ _ rfl rfl _ _ (heap_alloc_last _ _) G3.1 (by rw [G3.2.1]; rfl) G3.2.2 ?_; rw [World.setRow_alloc_new])
  have bN := hide (Ro.new w1 rn 25)
  replace bU := hide (bU.out.alloc (.cells rn 25))
  replace bA := hide (bA.out.alloc (.cells rn 25))
  replace HT := hide (HT.out.below (bl_new w1 (.cells rn 25)))
  replace hb := hide (bl_alloc hb.out (.cells rn 25))
  generalize w1.heap.size = gN at *
  generalize w1.alloc (.cells rn 25) = u at *
  go_wp2_with (refine load_row_g (by rfl) 25 _ rfl _ rfl _ _ _ bU.out Tryz.underlying25 rfl G1.1 ?_)
  refine (V1.out _).mono ?_
  rintro e w1 ⟨rfl, h1⟩
  replace bU := hide (bU.out.below h1)
  replace bA := hide (bA.out.below h1)
  replace bN := hide (bN.out.below h1)
  replace HT := hide (HT.out.below h1)
  replace hb := hide (bel_next hb.out h1)
  clear h1
  obtain ⟨x1, _⟩ := ro_cf bU.out 2 _ e1
  go_wp2_with (refine load_row_g (by rfl) 25 _ rfl _ rfl _ _ _ bA.out Tryz.underlying25 rfl G2.1 ?_)
  refine (V2.out _).mono ?_
  rintro e w1 ⟨rfl, h1⟩
  replace bU := hide (bU.out.below h1)
  replace bA := hide (bA.out.below h1)
  replace bN := hide (bN.out.below h1)
  replace HT := hide (HT.out.below h1)
  replace hb := hide (bel_next hb.out h1)
  clear h1
  clear x1
  obtain ⟨x2, _⟩ := ro_cf bA.out 2 _ e2
  go_wp2_with (refine load_row_g (by rfl) 25 _ rfl _ rfl _ _ _ bN.out Tryz.underlying25 rfl G3.1 ?_)
  refine (V3.out _).mono ?_
  rintro e w1 ⟨rfl, h1⟩
  replace bU := hide (bU.out.below h1)
  replace bA := hide (bA.out.below h1)
  replace bN := hide (bN.out.below h1)
  replace HT := hide (HT.out.below h1)
  replace hb := hide (bel_next hb.out h1)
  clear h1
  clear x2
  go_wp2_with (refine load_row_g (by rfl) 25 _ rfl _ rfl _ _ _ bU.out Tryz.underlying25 rfl G1.1 ?_)
  refine (H1.out _ HT.out).mono ?_
  rintro e w1 ⟨rfl, h1⟩
  replace bU := hide (bU.out.below h1)
  replace bA := hide (bA.out.below h1)
  replace bN := hide (bN.out.below h1)
  replace HT := hide (HT.out.below h1)
  replace hb := hide (bel_next hb.out h1)
  clear h1
  have bC := hide ((Ro.new w1 #[.int .i64 19792, .int .i64 25200] 38).alloc (.cells #[.int .i64 20030, .int .i64 21600] 38))
  have bD := hide (show Ro ((w1.alloc (.cells #[.int .i64 19792, .int .i64 25200] 38)).alloc (.cells #[.int .i64 20030, .int .i64 21600] 38)) (w1.heap.size + 1) #[.int .i64 20030, .int .i64 21600] 38 by have := Ro.new (w1.alloc (.cells #[.int .i64 19792, .int .i64 25200] 38)) #[.int .i64 20030, .int .i64 21600] 38; simpa using this)
  replace bU := hide ((bU.out.alloc (.cells #[.int .i64 19792, .int .i64 25200] 38)).alloc (.cells #[.int .i64 20030, .int .i64 21600] 38))
  replace bA := hide ((bA.out.alloc (.cells #[.int .i64 19792, .int .i64 25200] 38)).alloc (.cells #[.int .i64 20030, .int .i64 21600] 38))
  replace bN := hide ((bN.out.alloc (.cells #[.int .i64 19792, .int .i64 25200] 38)).alloc (.cells #[.int .i64 20030, .int .i64 21600] 38))
  replace HT := hide ((HT.out.below (bl_new w1 (.cells #[.int .i64 19792, .int .i64 25200] 38))).below (bl_new _ (.cells #[.int .i64 20030, .int .i64 21600] 38)))
  replace hb := hide (bl_alloc (bl_alloc hb.out (.cells #[.int .i64 19792, .int .i64 25200] 38)) (.cells #[.int .i64 20030, .int .i64 21600] 38))
  go_upto_region 7 with fail
  generalize w1.heap.size + 1 = gD at *
  generalize w1.heap.size = gC at *
  generalize (w1.alloc (.cells #[.int .i64 19792, .int .i64 25200] 38)).alloc (.cells #[.int .i64 20030, .int .i64 21600] 38) = u at *
  go_wp2_with (refine load_row_g (by rfl) 25 _ rfl _ rfl _ _ _ bU.out Tryz.underlying25 rfl G1.1 ?_)
  refine (N1.out _ HT.out).mono ?_
  rintro e w1 ⟨rfl, h1⟩
  replace bU := hide (bU.out.below h1)
  replace bA := hide (bA.out.below h1)
  replace bN := hide (bN.out.below h1)
  replace bC := hide (bC.out.below h1)
  replace bD := hide (bD.out.below h1)
  replace HT := hide (HT.out.below h1)
  replace hb := hide (bel_next hb.out h1)
  clear h1
  go_wp2_with (refine load_row_g (by rfl) 25 _ rfl _ rfl _ _ _ bU.out Tryz.underlying25 rfl G1.1 ?_)
  refine (N2.out _ HT.out).mono ?_
  rintro e w1 ⟨rfl, h1⟩
  replace bU := hide (bU.out.below h1)
  replace bA := hide (bA.out.below h1)
  replace bN := hide (bN.out.below h1)
  replace bC := hide (bC.out.below h1)
  replace bD := hide (bD.out.below h1)
  replace HT := hide (HT.out.below h1)
  replace hb := hide (bel_next hb.out h1)
  clear h1
  go_wp2_with (refine load_row_g (by rfl) 25 _ rfl _ rfl _ _ _ bN.out Tryz.underlying25 rfl G3.1 ?_)
  refine (N3.out _ HT.out).mono ?_
  rintro e w1 ⟨rfl, h1⟩
  replace bU := hide (bU.out.below h1)
  replace bA := hide (bA.out.below h1)
  replace bN := hide (bN.out.below h1)
  replace bC := hide (bC.out.below h1)
  replace bD := hide (bD.out.below h1)
  replace HT := hide (HT.out.below h1)
  replace hb := hide (bel_next hb.out h1)
  clear h1
  go_wp2_with (refine load_row_g (by rfl) 25 _ rfl _ rfl _ _ _ bA.out Tryz.underlying25 rfl G2.1 ?_)
  refine (N4.out _ HT.out).mono ?_
  rintro e w1 ⟨rfl, h1⟩
  replace bU := hide (bU.out.below h1)
  replace bA := hide (bA.out.below h1)
  replace bN := hide (bN.out.below h1)
  replace bC := hide (bC.out.below h1)
  replace bD := hide (bD.out.below h1)
  replace HT := hide (HT.out.below h1)
  replace hb := hide (bel_next hb.out h1)
  clear h1
  go_upto_region 11 with fail
  dsimp only [List.append]
  obtain ⟨cC0, _⟩ := ro_cf bC.out 0 (.int .i64 19792) rfl
  obtain ⟨cC1, _⟩ := ro_cf bC.out 1 (.int .i64 25200) rfl
  obtain ⟨cD0, _⟩ := ro_cf bD.out 0 (.int .i64 20030) rfl
  obtain ⟨cD1, _⟩ := ro_cf bD.out 1 (.int .i64 21600) rfl
  go_wp2_with (refine load_row_g (by rfl) 25 _ rfl _ rfl _ _ _ bU.out Tryz.underlying25 rfl G1.1 ?_)
  refine (A1.out _ HT.out).mono ?_
  rintro e w1 ⟨rfl, h1⟩
  replace bU := hide (bU.out.below h1)
  replace bA := hide (bA.out.below h1)
  replace bN := hide (bN.out.below h1)
  replace bC := hide (bC.out.below h1)
  replace bD := hide (bD.out.below h1)
  replace HT := hide (HT.out.below h1)
  replace hb := hide (bel_next hb.out h1)
  clear h1
  clear cC0 cC1 cD0 cD1
  go_wp2_with (refine load_row_g (by rfl) 25 _ rfl _ rfl _ _ _ bU.out Tryz.underlying25 rfl G1.1 ?_)
  refine (A2.out _ HT.out).mono ?_
  rintro e w1 ⟨rfl, h1⟩
  replace bU := hide (bU.out.below h1)
  replace bA := hide (bA.out.below h1)
  replace bN := hide (bN.out.below h1)
  replace bC := hide (bC.out.below h1)
  replace bD := hide (bD.out.below h1)
  replace HT := hide (HT.out.below h1)
  replace hb := hide (bel_next hb.out h1)
  clear h1
  go_wp2_with (refine load_row_g (by rfl) 25 _ rfl _ rfl _ _ _ bA.out Tryz.underlying25 rfl G2.1 ?_)
  refine (A3.out _ HT.out).mono ?_
  rintro e w1 ⟨rfl, h1⟩
  replace bU := hide (bU.out.below h1)
  replace bA := hide (bA.out.below h1)
  replace bN := hide (bN.out.below h1)
  replace bC := hide (bC.out.below h1)
  replace bD := hide (bD.out.below h1)
  replace HT := hide (HT.out.below h1)
  replace hb := hide (bel_next hb.out h1)
  clear h1
  go_wp2_with (refine load_row_g (by rfl) 25 _ rfl _ rfl _ _ _ bN.out Tryz.underlying25 rfl G3.1 ?_)
  refine (A4.out _ HT.out).mono ?_
  rintro e w1 ⟨rfl, h1⟩
  replace bU := hide (bU.out.below h1)
  replace bA := hide (bA.out.below h1)
  replace bN := hide (bN.out.below h1)
  replace bC := hide (bC.out.below h1)
  replace bD := hide (bD.out.below h1)
  replace HT := hide (HT.out.below h1)
  replace hb := hide (bel_next hb.out h1)
  clear h1
  obtain ⟨cC0, _⟩ := ro_cf bC.out 0 (.int .i64 19792) rfl
  obtain ⟨cC1, _⟩ := ro_cf bC.out 1 (.int .i64 25200) rfl
  obtain ⟨cD0, _⟩ := ro_cf bD.out 0 (.int .i64 20030) rfl
  obtain ⟨cD1, _⟩ := ro_cf bD.out 1 (.int .i64 21600) rfl
  go_wp2_with fail
  refine (C1.out _ HT.out).mono ?_
  rintro e w1 ⟨rfl, h1⟩
  replace bU := hide (bU.out.below h1)
  replace bA := hide (bA.out.below h1)
  replace bN := hide (bN.out.below h1)
  replace bC := hide (bC.out.below h1)
  replace bD := hide (bD.out.below h1)
  replace HT := hide (HT.out.below h1)
  replace hb := hide (bel_next hb.out h1)
  clear h1
  clear cC0 cC1 cD0 cD1
  obtain ⟨cC0, _⟩ := ro_cf bC.out 0 (.int .i64 19792) rfl
  obtain ⟨cC1, _⟩ := ro_cf bC.out 1 (.int .i64 25200) rfl
  obtain ⟨cD0, _⟩ := ro_cf bD.out 0 (.int .i64 20030) rfl
  obtain ⟨cD1, _⟩ := ro_cf bD.out 1 (.int .i64 21600) rfl
  go_wp2_with fail
  refine (C2.out _ HT.out).mono ?_
  rintro e w1 ⟨rfl, h1⟩
  replace bU := hide (bU.out.below h1)
  replace bA := hide (bA.out.below h1)
  replace bN := hide (bN.out.below h1)
  replace bC := hide (bC.out.below h1)
  replace bD := hide (bD.out.below h1)
  replace HT := hide (HT.out.below h1)
  replace hb := hide (bel_next hb.out h1)
  clear h1
  clear cC0 cC1 cD0 cD1
  go_wp2
  go_ret
  exact ⟨rfl, hb.out⟩
end l11_
end Go.Proofs.YtdhogpcoegfopaaGreatDoor
