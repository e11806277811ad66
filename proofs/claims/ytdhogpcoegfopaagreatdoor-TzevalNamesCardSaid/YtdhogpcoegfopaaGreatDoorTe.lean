/-
  PLAIN MATHEMATICS: the next change exists; the examples of layer 11 (EST5EDT; a rule whose daylight saving time never ends). No program.
  CONTRACTS OF PACKAGE tzeval, as it landed at 52ef5f9: Compare, Changes, At, Next. Conditions: a valid rule (its days, offsets, and names of at most 1,000,000 bytes), a time of 64 bits, years up to 2^39, the tables' fact.
-/
import Derived.Test.YtdhogpcoegfopaaGreatDoorTeMath
import Derived.Test.YtdhogpcoegfopaaGreatDoorTee
namespace Go.Proofs.YtdhogpcoegfopaaGreatDoor
open Go.RowKit
set_option linter.unusedVariables false
/-- there is an answer. -/
theorem nextOk_ex (S : Int → Prop) (t : Int) : ∃ n ok, nextOk S t n ok := by
  by_cases h : ∃ k : Nat, ¬ (S (t + 1 + k - 1) ↔ S (t + 1 + k)) ∧ t + 1 + (k : Int) ≤ 9223372036854775807 ∧ t + 1 + (k : Int) ≤ t + 12622780800
  · have key : ∀ k : Nat, (¬ (S (t + 1 + k - 1) ↔ S (t + 1 + k)) ∧ t + 1 + (k : Int) ≤ 9223372036854775807 ∧ t + 1 + (k : Int) ≤ t + 12622780800) → ∃ n ok, nextOk S t n ok := by
      intro k
      induction k using Nat.strongRecOn with
      | _ k ih =>
        intro hk
        by_cases hl : ∃ j : Nat, j < k ∧ ¬ (S (t + 1 + j - 1) ↔ S (t + 1 + j))
        · obtain ⟨j, hj, h1⟩ := hl
          exact ih j hj ⟨h1, by omega, by omega⟩
        · refine ⟨t + 1 + k, true, .inl ⟨rfl, by omega, hk.2.1, hk.2.2, hk.1, fun u hu1 hu2 => ?_⟩⟩
          refine Classical.byContradiction fun hc => hl ⟨(u - (t + 1)).toNat, by omega, ?_⟩
          rw [show t + 1 + ((u - (t + 1)).toNat : Int) = u by omega]
          exact hc
    obtain ⟨k, hk⟩ := h
    exact key k hk
  · refine ⟨0, false, .inr ⟨rfl, rfl, fun u h1 h2 h3 => ?_⟩⟩
    refine Classical.byContradiction fun hc => h ⟨(u - (t + 1)).toNat, ?_, by omega, by omega⟩
    rw [show t + 1 + ((u - (t + 1)).toNat : Int) = u by omega]
    exact hc
/-- the examples: the start and the end of daylight saving time in EST5EDT,M3.2.0,M11.1.0 and in EST5EDT,0/0,J365/25. -/
abbrev usS : RD := (3, 0, 3, 2, 0, 7200)
abbrev usE : RD := (3, 0, 11, 1, 0, 7200)
abbrev alS : RD := (2, 0, 0, 0, 0, 0)
abbrev alE : RD := (1, 365, 0, 0, 0, 90000)
theorem usOk : rdOk usS ∧ rdOk usE ∧ rdOk alS ∧ rdOk alE := by decide
theorem us_v : chI usS (-18000) 2023 = 1678604400 ∧ chI usS (-18000) 2024 = 1710054000 ∧ chI usS (-18000) 2025 = 1741503600 ∧ chI usE (-14400) 2023 = 1699164000 ∧ chI usE (-14400) 2024 = 1730613600 := by decide
theorem us_off {t : Int} (h0 : 1699164000 ≤ t) (h1 : t < 1710054000) : ¬ onS usS usE (-18000) (-14400) t := by
  obtain ⟨v1, v2, v3, v4, v5⟩ := us_v
  rw [onS_iff usOk.1 usOk.2.1 (ya := 2023) (yb := 2023) (by omega) (by show t < chI usS (-18000) 2024; omega) (by omega) (by show t < chI usE (-14400) 2024; omega)]
  omega
theorem us_on {t : Int} (h0 : 1710054000 ≤ t) (h1 : t < 1730613600) : onS usS usE (-18000) (-14400) t := by
  obtain ⟨v1, v2, v3, v4, v5⟩ := us_v
  rw [onS_iff usOk.1 usOk.2.1 (ya := 2024) (yb := 2023) (by omega) (by show t < chI usS (-18000) 2025; omega) (by omega) (by show t < chI usE (-14400) 2024; omega)]
  omega
theorem us_off2 : ¬ onS usS usE (-18000) (-14400) 1730613600 := by
  obtain ⟨v1, v2, v3, v4, v5⟩ := us_v
  have := chI_lt usOk.2.1 (-14400) (show (2024 : Int) < 2025 by decide)
  have := chI_step usOk.2.1 (-14400) 2024
  rw [onS_iff usOk.1 usOk.2.1 (ya := 2024) (yb := 2024) (by omega) (by show 1730613600 < chI usS (-18000) 2025; omega) (by omega) (by omega)]
  omega
theorem us_n1 : nextOk (ruleS true usS usE (-18000) (-14400)) 1710053999 1710054000 true := by
  refine .inl ⟨rfl, by omega, by omega, by omega, fun h => ?_, fun u h1 h2 => by omega⟩
  exact us_off (t := 1710053999) (by omega) (by omega) (h.2 ⟨rfl, us_on (by omega) (by omega)⟩).2
theorem us_n2 : nextOk (ruleS true usS usE (-18000) (-14400)) 1710054000 1730613600 true := by
  refine .inl ⟨rfl, by omega, by omega, by omega, fun h => ?_, fun u h1 h2 => ?_⟩
  · exact us_off2 (h.1 ⟨rfl, us_on (t := 1730613600 - 1) (by omega) (by omega)⟩).2
  · exact ⟨fun _ => ⟨rfl, us_on (by omega) (by omega)⟩, fun _ => ⟨rfl, us_on (by omega) (by omega)⟩⟩
theorem al_eq (y : Int) : chI alE (-14400) y = chI alS (-18000) (y + 1) := by
  have hs := ystart_succ y
  have hl := ylen_leap y
  unfold chI rdD rday rdj
  simp only [show ¬ (1 : Int) = 2 by decide, if_false, if_true]
  cases hy : leap y
  · rw [hy] at hl; simp at hl ⊢; omega
  · rw [hy] at hl; simp at hl ⊢; omega
theorem al_on (t : Int) : onS alS alE (-18000) (-14400) t := by
  obtain ⟨ya, a1, a2⟩ := chI_ex usOk.2.2.1 (-18000) t
  refine ⟨ya, a1, fun z hz => ?_⟩
  rw [al_eq] at hz ⊢
  have := chI_uniq usOk.2.2.1 (-18000) a1 a2 hz
  exact (chI_le usOk.2.2.1 (-18000)).2 this
theorem al_no (t : Int) : nextOk (ruleS true alS alE (-18000) (-14400)) t 0 false :=
  .inr ⟨rfl, rfl, fun u _ _ _ => ⟨fun _ => ⟨rfl, al_on _⟩, fun _ => ⟨rfl, al_on _⟩⟩⟩
theorem no_no (st en : RD) (so dof t : Int) : nextOk (ruleS false st en so dof) t 0 false :=
  .inr ⟨rfl, rfl, fun u _ _ _ => ⟨fun h => absurd h ruleS_no, fun h => absurd h ruleS_no⟩⟩
end Go.Proofs.YtdhogpcoegfopaaGreatDoor
namespace Go.Proofs.YtdhogpcoegfopaaGreatDoor
open Go.ChangeShapes Go.WideShapes Go.ChangeAt Go.RowKit
set_option linter.unusedVariables false
set_option maxRecDepth 100000
namespace te_
theorem Changes (std : ByteArray) (so : Int) (dst : ByteArray) (dof : Int) (st en : RD) (y : Int) (w : World) (hT : Tb w) (hs : rdOk st) (he : rdOk en) (so0 : offOk so) (do0 : offOk dof) (y0 : -549755813888 ≤ y) (y1 : y ≤ 549755813888) :
    Calls Tryz.prog 14 #[.agg (crule std so true dst dof st en), .int .i64 y] w fun e w' => e = .returned (.tuple #[vin (chI st so y), vin (chI en dof y)]) ∧ Below w.heap.size w w' := Changes_ std so dst dof st en y w hT hs he so0 do0 y0 y1
set_option maxHeartbeats 8000000 in
theorem At_no (std : ByteArray) (so : Int) (dst : ByteArray) (dof : Int) (st en : RD) (t : Int) (w : World) (hT : Tb w) (hz : std.size ≤ 1000000 ∧ dst.size ≤ 1000000) (h0 : -9223372036854775808 ≤ t) (h1 : t < 9223372036854775808) :
    Calls Tryz.prog 10 #[.agg (crule std so false dst dof st en), .int .i64 t] w fun e w' => e = .returned (vres false std so dst dof) ∧ Below w.heap.size w w' := by
  have R1 := hide (fun w => result_ so false std w hz.1)
  clear h0 h1 hz
  have G := gr_rule std so false dst dof st en
  obtain ⟨cs, hcs⟩ : ∃ cs, crule std so false dst dof st en = cs := ⟨_, rfl⟩
  have e0 : cs[0]? = some (.string std) := by rw [← hcs]; rfl
  have e1 : cs[1]? = some (.int .i64 so) := by rw [← hcs]; rfl
  have e2 : cs[2]? = some (.bool false) := by rw [← hcs]; rfl
  have e3 : cs[3]? = some (.string dst) := by rw [← hcs]; rfl
  have e4 : cs[4]? = some (.int .i64 dof) := by rw [← hcs]; rfl
  simp only [hcs] at G ⊢
  clear hcs
  have hA := hide ((Ro.new w cs 25).alloc (.cells #[.bool false, .int .i64 0, .bool false, .string ⟨#[]⟩] 29))
  have h4 := hide (show Ro ((w.alloc (.cells cs 25)).alloc (.cells #[.bool false, .int .i64 0, .bool false, .string ⟨#[]⟩] 29)) (w.heap.size + 1) #[.bool false, .int .i64 0, .bool false, .string ⟨#[]⟩] 29 by have := Ro.new (w.alloc (.cells cs 25)) #[.bool false, .int .i64 0, .bool false, .string ⟨#[]⟩] 29; simpa using this)
  have hb := hide (bl_alloc (bl_new w (.cells cs 25)) (.cells #[.bool false, .int .i64 0, .bool false, .string ⟨#[]⟩] 29))
  have HT := hide (hT.below hb.out)
  clear hT
  go_enter Tryz.func10, Tryz.ntmps10
  go_upto_region 1 with fail
  generalize (w.alloc (.cells cs 25)).alloc (.cells #[.bool false, .int .i64 0, .bool false, .string ⟨#[]⟩] 29) = u at *
  obtain ⟨x2, _⟩ := ro_cf hA.out 2 _ e2
  clear HT
  obtain ⟨xa, _⟩ := ro_cf hA.out 1 _ e1
  obtain ⟨xb, _⟩ := ro_cf hA.out 0 _ e0
  go_wp2_with fail
  refine (R1.out _).mono ?_
  rintro e w6 ⟨rfl, h6⟩
  clear xa xb
  replace h4 := hide (h4.out.below h6)
  replace hb := hide (bel_next hb.out h6)
  clear h6
  obtain ⟨x0, z0⟩ := ro_cf h4.out 0 (.bool false) rfl
  obtain ⟨x1, z1⟩ := ro_cf h4.out 1 (.int .i64 0) rfl
  obtain ⟨x2, z2⟩ := ro_cf h4.out 2 (.bool false) rfl
  obtain ⟨x3, z3⟩ := ro_cf h4.out 3 (.string ⟨#[]⟩) rfl
  go_wp2_with fail
  have r4 : Ro ((((w6.setCell ⟨w.heap.size + 1, 0, none⟩ (.bool true)).setCell ⟨w.heap.size + 1, 1, none⟩ (.int .i64 so)).setCell ⟨w.heap.size + 1, 2, none⟩ (.bool false)).setCell ⟨w.heap.size + 1, 3, none⟩ (.string std)) (w.heap.size + 1) #[.bool true, .int .i64 so, .bool false, .string std] 29 := by
    have := ro_set (ro_set (ro_set (ro_set h4.out 0 (.bool true)) 1 (.int .i64 so)) 2 (.bool false)) 3 (.string std)
    simpa using this
  have hb2 := bl_set4' (a := .bool true) (b := .int .i64 so) (c := .bool false) (d := .string std) hb.out (g := w.heap.size + 1) (by omega)
  obtain ⟨y0, _⟩ := ro_cf r4 0 (.bool true) rfl
  obtain ⟨y1, _⟩ := ro_cf r4 1 (.int .i64 so) rfl
  obtain ⟨y2, _⟩ := ro_cf r4 2 (.bool false) rfl
  obtain ⟨y3, _⟩ := ro_cf r4 3 (.string std) rfl
  generalize (((w6.setCell ⟨w.heap.size + 1, 0, none⟩ (.bool true)).setCell ⟨w.heap.size + 1, 1, none⟩ (.int .i64 so)).setCell ⟨w.heap.size + 1, 2, none⟩ (.bool false)).setCell ⟨w.heap.size + 1, 3, none⟩ (.string std) = w7 at *
  clear x0 x1 x2 x3 z0 z1 z2 z3
  refine bodyPost_ret (v := .agg #[.bool true, .int .i64 so, .bool false, .string std]) (by simp [results, Tryz.results10, go_sem, y0, y1, y2, y3]) rfl ⟨rfl, hb2⟩
set_option maxHeartbeats 8000000 in
theorem At_yes (std : ByteArray) (so : Int) (dst : ByteArray) (dof : Int) (st en : RD) (t : Int) (b : Bool) (w : World) (hT : Tb w) (hz : std.size ≤ 1000000 ∧ dst.size ≤ 1000000) (h0 : -9223372036854775808 ≤ t) (h1 : t < 9223372036854775808) (hs : rdOk st) (he : rdOk en) (so0 : offOk so) (do0 : offOk dof) (hbn : b = true ↔ onS st en so dof t) :
    Calls Tryz.prog 10 #[.agg (crule std so true dst dof st en), .int .i64 t] w fun e w' => e = .returned (vres b std so dst dof) ∧ Below w.heap.size w w' := by
  have R1 := hide (fun w => result_ so false std w hz.1)
  have R2 := hide (fun w => result_ dof true dst w hz.2)
  have D1 := hide (fun w hT => isDaylight_ std so dst dof st en t b w hT h0 h1 hs he so0 do0 hbn)
  clear hs he so0 do0 hbn
  clear h0 h1 hz
  have G := gr_rule std so true dst dof st en
  obtain ⟨cs, hcs⟩ : ∃ cs, crule std so true dst dof st en = cs := ⟨_, rfl⟩
  have e0 : cs[0]? = some (.string std) := by rw [← hcs]; rfl
  have e1 : cs[1]? = some (.int .i64 so) := by rw [← hcs]; rfl
  have e2 : cs[2]? = some (.bool true) := by rw [← hcs]; rfl
  have e3 : cs[3]? = some (.string dst) := by rw [← hcs]; rfl
  have e4 : cs[4]? = some (.int .i64 dof) := by rw [← hcs]; rfl
  simp only [hcs] at D1 G ⊢
  clear hcs
  have hA := hide ((Ro.new w cs 25).alloc (.cells #[.bool false, .int .i64 0, .bool false, .string ⟨#[]⟩] 29))
  have h4 := hide (show Ro ((w.alloc (.cells cs 25)).alloc (.cells #[.bool false, .int .i64 0, .bool false, .string ⟨#[]⟩] 29)) (w.heap.size + 1) #[.bool false, .int .i64 0, .bool false, .string ⟨#[]⟩] 29 by have := Ro.new (w.alloc (.cells cs 25)) #[.bool false, .int .i64 0, .bool false, .string ⟨#[]⟩] 29; simpa using this)
  have hb := hide (bl_alloc (bl_new w (.cells cs 25)) (.cells #[.bool false, .int .i64 0, .bool false, .string ⟨#[]⟩] 29))
  have HT := hide (hT.below hb.out)
  clear hT
  go_enter Tryz.func10, Tryz.ntmps10
  go_upto_region 1 with fail
  generalize (w.alloc (.cells cs 25)).alloc (.cells #[.bool false, .int .i64 0, .bool false, .string ⟨#[]⟩] 29) = u at *
  obtain ⟨x2, _⟩ := ro_cf hA.out 2 _ e2
  go_wp2_with (refine load_row_g (by rfl) 25 _ rfl _ rfl _ _ _ hA.out Tryz.underlying25 rfl G.1 ?_)
  refine (D1.out _ HT.out).mono ?_
  rintro e w5 ⟨rfl, h5⟩
  clear x2
  replace hA := hide (hA.out.below h5)
  replace h4 := hide (h4.out.below h5)
  replace hb := hide (bel_next hb.out h5)
  clear h5
  cases b
  · obtain ⟨xa, _⟩ := ro_cf hA.out 1 _ e1
    obtain ⟨xb, _⟩ := ro_cf hA.out 0 _ e0
    go_wp2_with fail
    refine (R1.out _).mono ?_
    rintro e w6 ⟨rfl, h6⟩
    clear xa xb
    replace h4 := hide (h4.out.below h6)
    replace hb := hide (bel_next hb.out h6)
    clear h6
    obtain ⟨x0, z0⟩ := ro_cf h4.out 0 (.bool false) rfl
    obtain ⟨x1, z1⟩ := ro_cf h4.out 1 (.int .i64 0) rfl
    obtain ⟨x2, z2⟩ := ro_cf h4.out 2 (.bool false) rfl
    obtain ⟨x3, z3⟩ := ro_cf h4.out 3 (.string ⟨#[]⟩) rfl
    go_wp2_with fail
    have r4 : Ro ((((w6.setCell ⟨w.heap.size + 1, 0, none⟩ (.bool true)).setCell ⟨w.heap.size + 1, 1, none⟩ (.int .i64 so)).setCell ⟨w.heap.size + 1, 2, none⟩ (.bool false)).setCell ⟨w.heap.size + 1, 3, none⟩ (.string std)) (w.heap.size + 1) #[.bool true, .int .i64 so, .bool false, .string std] 29 := by
      have := ro_set (ro_set (ro_set (ro_set h4.out 0 (.bool true)) 1 (.int .i64 so)) 2 (.bool false)) 3 (.string std)
      simpa using this
    have hb2 := bl_set4' (a := .bool true) (b := .int .i64 so) (c := .bool false) (d := .string std) hb.out (g := w.heap.size + 1) (by omega)
    obtain ⟨y0, _⟩ := ro_cf r4 0 (.bool true) rfl
    obtain ⟨y1, _⟩ := ro_cf r4 1 (.int .i64 so) rfl
    obtain ⟨y2, _⟩ := ro_cf r4 2 (.bool false) rfl
    obtain ⟨y3, _⟩ := ro_cf r4 3 (.string std) rfl
    generalize (((w6.setCell ⟨w.heap.size + 1, 0, none⟩ (.bool true)).setCell ⟨w.heap.size + 1, 1, none⟩ (.int .i64 so)).setCell ⟨w.heap.size + 1, 2, none⟩ (.bool false)).setCell ⟨w.heap.size + 1, 3, none⟩ (.string std) = w7 at *
    clear x0 x1 x2 x3 z0 z1 z2 z3
    refine bodyPost_ret (v := .agg #[.bool true, .int .i64 so, .bool false, .string std]) (by simp [results, Tryz.results10, go_sem, y0, y1, y2, y3]) rfl ⟨rfl, hb2⟩
  · obtain ⟨xa, _⟩ := ro_cf hA.out 4 _ e4
    obtain ⟨xb, _⟩ := ro_cf hA.out 3 _ e3
    go_wp2_with fail
    refine (R2.out _).mono ?_
    rintro e w6 ⟨rfl, h6⟩
    clear xa xb
    replace h4 := hide (h4.out.below h6)
    replace hb := hide (bel_next hb.out h6)
    clear h6
    obtain ⟨x0, z0⟩ := ro_cf h4.out 0 (.bool false) rfl
    obtain ⟨x1, z1⟩ := ro_cf h4.out 1 (.int .i64 0) rfl
    obtain ⟨x2, z2⟩ := ro_cf h4.out 2 (.bool false) rfl
    obtain ⟨x3, z3⟩ := ro_cf h4.out 3 (.string ⟨#[]⟩) rfl
    go_wp2_with fail
    have r4 : Ro ((((w6.setCell ⟨w.heap.size + 1, 0, none⟩ (.bool true)).setCell ⟨w.heap.size + 1, 1, none⟩ (.int .i64 dof)).setCell ⟨w.heap.size + 1, 2, none⟩ (.bool true)).setCell ⟨w.heap.size + 1, 3, none⟩ (.string dst)) (w.heap.size + 1) #[.bool true, .int .i64 dof, .bool true, .string dst] 29 := by
      have := ro_set (ro_set (ro_set (ro_set h4.out 0 (.bool true)) 1 (.int .i64 dof)) 2 (.bool true)) 3 (.string dst)
      simpa using this
    have hb2 := bl_set4' (a := .bool true) (b := .int .i64 dof) (c := .bool true) (d := .string dst) hb.out (g := w.heap.size + 1) (by omega)
    obtain ⟨y0, _⟩ := ro_cf r4 0 (.bool true) rfl
    obtain ⟨y1, _⟩ := ro_cf r4 1 (.int .i64 dof) rfl
    obtain ⟨y2, _⟩ := ro_cf r4 2 (.bool true) rfl
    obtain ⟨y3, _⟩ := ro_cf r4 3 (.string dst) rfl
    generalize (((w6.setCell ⟨w.heap.size + 1, 0, none⟩ (.bool true)).setCell ⟨w.heap.size + 1, 1, none⟩ (.int .i64 dof)).setCell ⟨w.heap.size + 1, 2, none⟩ (.bool true)).setCell ⟨w.heap.size + 1, 3, none⟩ (.string dst) = w7 at *
    clear x0 x1 x2 x3 z0 z1 z2 z3
    refine bodyPost_ret (v := .agg #[.bool true, .int .i64 dof, .bool true, .string dst]) (by simp [results, Tryz.results10, go_sem, y0, y1, y2, y3]) rfl ⟨rfl, hb2⟩
theorem At (std : ByteArray) (so : Int) (hd : Bool) (dst : ByteArray) (dof : Int) (st en : RD) (t : Int) (b : Bool) (w : World) (hT : Tb w) (hz : std.size ≤ 1000000 ∧ dst.size ≤ 1000000) (h0 : -9223372036854775808 ≤ t) (h1 : t < 9223372036854775808) (hv : RvOk hd so dof st en) (hbn : b = true ↔ ruleS hd st en so dof t) :
    Calls Tryz.prog 10 #[.agg (crule std so hd dst dof st en), .int .i64 t] w fun e w' => e = .returned (vres b std so dst dof) ∧ Below w.heap.size w w' := by
  cases hd
  · have : b = false := by
      cases b
      · rfl
      · exact absurd (hbn.1 rfl) ruleS_no
    subst this
    exact At_no std so dst dof st en t w hT hz h0 h1
  · obtain ⟨v1, v2, v3, v4⟩ := hv rfl
    refine At_yes std so dst dof st en t b w hT hz h0 h1 v1 v2 v3 v4 ?_
    rw [hbn]
    exact ⟨fun h => h.2, fun h => ⟨rfl, h⟩⟩
theorem Next_ (std : ByteArray) (so : Int) (hd : Bool) (dst : ByteArray) (dof : Int) (st en : RD) (t : Int) (w : World) (hT : Tb w) (h0 : -9223372036854775808 ≤ t) (h1 : t < 9223372036854775808) (hv : RvOk hd so dof st en) :
    Calls Tryz.prog 12 #[.agg (crule std so hd dst dof st en), .int .i64 t] w fun e w' => ∃ n ok, nextOk (ruleS hd st en so dof) t n ok ∧ e = .returned (.tuple #[.int .i64 n, .bool ok]) ∧ Below w.heap.size w w' := by
  cases hd
  · refine (Next_no std so dst dof st en t w h0 h1).mono ?_
    rintro e w' ⟨rfl, hb⟩
    exact ⟨0, false, .inr ⟨rfl, rfl, fun u _ _ _ => ⟨fun h => absurd h ruleS_no, fun h => absurd h ruleS_no⟩⟩, rfl, hb⟩
  · obtain ⟨v1, v2, v3, v4⟩ := hv rfl
    exact Next_yes std so dst dof st en t w hT h0 h1 v1 v2 v3 v4
theorem Next (std : ByteArray) (so : Int) (hd : Bool) (dst : ByteArray) (dof : Int) (st en : RD) (t n : Int) (ok : Bool) (w : World) (hT : Tb w) (h0 : -9223372036854775808 ≤ t) (h1 : t < 9223372036854775808) (hv : RvOk hd so dof st en) (hn : nextOk (ruleS hd st en so dof) t n ok) :
    Calls Tryz.prog 12 #[.agg (crule std so hd dst dof st en), .int .i64 t] w fun e w' => e = .returned (.tuple #[.int .i64 n, .bool ok]) ∧ Below w.heap.size w w' := by
  refine (Next_ std so hd dst dof st en t w hT h0 h1 hv).mono ?_
  rintro e w' ⟨m, k, hm, rfl, hb⟩
  obtain ⟨rfl, rfl⟩ := nextOk_uniq hn hm
  exact ⟨rfl, hb⟩
end te_
end Go.Proofs.YtdhogpcoegfopaaGreatDoor
