/-
  THE WALKS OF THE LAWS OF LAYER 10 (zoneinfolaw10): TzformatExtended. No conditions.
-/
import Derived.Test.YtjeclakdgmjbjaaGreatDoorLaw10c
import Derived.Test.YtjeclakdgmjbjaaGreatDoorRow2
namespace Go.Proofs.YtjeclakdgmjbjaaGreatDoor
open Go.ChangeShapes Go.WideShapes Go.ChangeAt Go.RowKit
set_option linter.unusedVariables false
/-- a rule day with another time. -/
def atT (d : RD) (T : Int) : RD := (d.1, d.2.1, d.2.2.1, d.2.2.2.1, d.2.2.2.2.1, T)
theorem atT_ok {d : RD} (h : rdOk d) {T : Int} (h0 : -604799 ≤ T) (h1 : T ≤ 604799) : rdOk (atT d T) := ⟨h0, h1, h.2.2⟩
theorem late_no {d : RD} {T : Int} (h0 : 0 ≤ T) (h1 : T ≤ 86400) : lateD (atT d T) = false := by unfold lateD atT; simp; omega
theorem late_yes {d : RD} {T : Int} (h : T < 0 ∨ 86400 < T) : lateD (atT d T) = true := by unfold lateD atT; simpa using h
namespace l10_
set_option maxRecDepth 100000 in
set_option maxHeartbeats 8000000 in
theorem extC (std : ByteArray) (so : Int) (hd : Bool) (dst : ByteArray) (dof : Int) (st en : RD) (ea far : Int) (w : World) (hT : Tp w) (hs : std.size ≤ maxLen) (ht : dst.size ≤ maxLen) (wea : (Lit.int .u16 ea).wf = true) (wfar : (Lit.int .u32 far).wf = true) :
    Calls Tryz.prog 6 #[.agg (crule std so hd dst dof st en), .int .u16 ea, .int .u32 far] w fun e w' => e = .returned (.bool true) ∧ Below w.heap.size w w' := by
  have HT := hide hT
  clear hT
  have ea0 : 0 ≤ ea ∧ ea ≤ 65535 := by simp [Lit.wf, IntKind.min, IntKind.max, IntKind.signed, IntKind.bits] at wea; omega
  have fa0 : 0 ≤ far ∧ far ≤ 4294967295 := by simp [Lit.wf, IntKind.min, IntKind.max, IntKind.signed, IntKind.bits] at wfar; omega
  obtain ⟨ea0, ea1⟩ := ea0
  obtain ⟨fa0, fa1⟩ := fa0
  have V := hide (fun w => r9_.Valid std so hd dst dof st en w hs ht)
  simp only [vrule_c] at V
  have G := gr_rule std so hd dst dof st en
  obtain ⟨cs, hcs⟩ : ∃ cs, crule std so hd dst dof st en = cs := ⟨_, rfl⟩
  rw [hcs] at V G ⊢
  have hb := hide (bl_new w (.cells cs 25))
  have hB := hide (Ro.new w cs 25)
  have e2 : cs[2]? = some (.bool hd) := by rw [← hcs]; rfl
  obtain ⟨v, hv⟩ : ∃ v, decide (prOk (byt std, so, hd, byt dst, dof, st, en)) = v := ⟨_, rfl⟩
  rw [hv] at V
  cases v
  · clear hcs hv
    go_enter Tryz.func6, Tryz.ntmps6
    go_wp2_with fail
    refine (awake _ (by first | exact HT.out.below hb.out | exact HT.out.below (Hid.out (by assumption)))).mono ?_
    rintro e w1 ⟨rfl, h1⟩
    replace hB := hide (hB.out.below h1)
    replace hb := hide (bel_next hb.out h1)
    clear h1
    go_wp2_with (refine load_row_g (by rfl) 25 _ rfl _ rfl _ _ _ hB.out Tryz.underlying25 rfl G.1 ?_)
    refine (V.out _).mono ?_
    rintro e w1 ⟨rfl, h1⟩
    replace hb := hide (bel_next hb.out h1)
    clear h1
    go_wp2_with fail
    refine (awake _ (by first | exact HT.out.below hb.out | exact HT.out.below (Hid.out (by assumption)))).mono ?_
    rintro e w1 ⟨rfl, h1⟩
    replace hb := hide (bel_next hb.out h1)
    clear h1
    go_wp2
    go_ret
    exact ⟨rfl, hb.out⟩
  · cases hd
    · clear hcs hv
      go_enter Tryz.func6, Tryz.ntmps6
      go_wp2_with fail
      refine (awake _ (by first | exact HT.out.below hb.out | exact HT.out.below (Hid.out (by assumption)))).mono ?_
      rintro e w1 ⟨rfl, h1⟩
      replace hB := hide (hB.out.below h1)
      replace hb := hide (bel_next hb.out h1)
      clear h1
      go_wp2_with (refine load_row_g (by rfl) 25 _ rfl _ rfl _ _ _ hB.out Tryz.underlying25 rfl G.1 ?_)
      refine (V.out _).mono ?_
      rintro e w1 ⟨rfl, h1⟩
      replace hB := hide (hB.out.below h1)
      replace hb := hide (bel_next hb.out h1)
      clear h1
      have x2 := (ro_cf hB.out 2 _ e2).1
      go_wp2_with fail
      refine (awake _ (by first | exact HT.out.below hb.out | exact HT.out.below (Hid.out (by assumption)))).mono ?_
      rintro e w1 ⟨rfl, h1⟩
      replace hb := hide (bel_next hb.out h1)
      clear h1
      go_wp2
      go_ret
      exact ⟨rfl, hb.out⟩
    · have hp := of_decide_eq_true hv
      obtain ⟨hn, hso, hr⟩ := id hp
      simp only [if_true] at hn hso hr
      obtain ⟨hnd, hdo, hst, hen⟩ := hr
      have hps : prOk (byt std, so, false, byt ⟨#[]⟩, 0, rd0, rd0) := ⟨hn, hso, by simp [byt]⟩
      obtain ⟨p, hpp⟩ : ∃ p, far % 86401 = p := ⟨_, rfl⟩
      obtain ⟨q, hqq⟩ : ∃ q, far / 7 % 86401 = q := ⟨_, rfl⟩
      obtain ⟨r, hrr⟩ : ∃ r, far % 518399 = r := ⟨_, rfl⟩
      have t1 : far.tmod 86401 = p := by rw [Int.tmod_eq_emod_of_nonneg (by omega)]; exact hpp
      have t2 : far.tdiv 7 = far / 7 := Int.tdiv_eq_ediv_of_nonneg (by omega)
      have t3 : (far / 7).tmod 86401 = q := by rw [Int.tmod_eq_emod_of_nonneg (by omega)]; exact hqq
      have t4 : far.tmod 518399 = r := by rw [Int.tmod_eq_emod_of_nonneg (by omega)]; exact hrr
      have p0 : 0 ≤ p := by omega
      have p1 : p ≤ 86400 := by omega
      have q0 : 0 ≤ q := by omega
      have q1 : q ≤ 86400 := by omega
      have r0 : 0 ≤ r := by omega
      have r1 : r ≤ 518398 := by omega
      have d0 : 0 ≤ far / 7 := by omega
      have d1 : far / 7 ≤ 613566756 := by omega
      generalize far / 7 = f7 at *
      obtain ⟨c6, hc6⟩ : ∃ c, crule std so true dst dof (atT st p) en = c := ⟨_, rfl⟩
      obtain ⟨c7, hc7⟩ : ∃ c, crule std so true dst dof (atT st p) (atT en q) = c := ⟨_, rfl⟩
      obtain ⟨c8, hc8⟩ : ∃ c, crule std so true dst dof (atT st (-1 - ea)) (atT en q) = c := ⟨_, rfl⟩
      obtain ⟨c9, hc9⟩ : ∃ c, crule std so true dst dof (atT st p) (atT en (86401 + r)) = c := ⟨_, rfl⟩
      obtain ⟨c10, hc10⟩ : ∃ c, crule std so false ⟨#[]⟩ 0 rd0 rd0 = c := ⟨_, rfl⟩
      have ec6 : cs.setIfInBounds 10 (.int .i64 p) = c6 := by rw [← hcs, ← hc6]; rfl
      have ec7 : c6.setIfInBounds 16 (.int .i64 q) = c7 := by rw [← hc6, ← hc7]; rfl
      have ec8 : c7.setIfInBounds 10 (.int .i64 (-1 - ea)) = c8 := by rw [← hc7, ← hc8]; rfl
      have ec9 : c7.setIfInBounds 16 (.int .i64 (86401 + r)) = c9 := by rw [← hc7, ← hc9]; rfl
      have G7 := gr_rule std so true dst dof (atT st p) (atT en q)
      rw [hc7] at G7
      have G8 := gr_rule std so true dst dof (atT st (-1 - ea)) (atT en q)
      rw [hc8] at G8
      have G9 := gr_rule std so true dst dof (atT st p) (atT en (86401 + r))
      rw [hc9] at G9
      have G10 := gr_rule std so false ⟨#[]⟩ 0 rd0 rd0
      rw [hc10] at G10
      have f0 : cs[0]? = some (.string std) := by rw [← hcs]; rfl
      have f1 : cs[1]? = some (.int .i64 so) := by rw [← hcs]; rfl
      have f10 : cs[10]? = some (.int .i64 st.2.2.2.2.2) := by rw [← hcs]; rfl
      have f16 : c6[16]? = some (.int .i64 en.2.2.2.2.2) := by rw [← hc6]; rfl
      have f10b : c7[10]? = some (.int .i64 p) := by rw [← hc7]; rfl
      have f16b : c7[16]? = some (.int .i64 q) := by rw [← hc7]; rfl
      have E7 : Hid (∀ w, Calls Tryz.prog 17 #[.agg c7] w fun e w' => e = .returned (.bool false) ∧ Below w.heap.size w w') := hide (fun w => by
        have := tf_.Extended std so true dst dof (atT st p) (atT en q) w ⟨hn, hso, by simp only [if_true]; exact ⟨hnd, hdo, atT_ok hst (by omega) (by omega), atT_ok hen (by omega) (by omega)⟩⟩
        rw [show (true && (lateD (atT st p) || lateD (atT en q))) = false by rw [late_no p0 p1, late_no q0 q1]; rfl] at this
        rw [← hc7]
        exact this)
      have E8 : Hid (∀ w, Calls Tryz.prog 17 #[.agg c8] w fun e w' => e = .returned (.bool true) ∧ Below w.heap.size w w') := hide (fun w => by
        have := tf_.Extended std so true dst dof (atT st (-1 - ea)) (atT en q) w ⟨hn, hso, by simp only [if_true]; exact ⟨hnd, hdo, atT_ok hst (by omega) (by omega), atT_ok hen (by omega) (by omega)⟩⟩
        rw [show (true && (lateD (atT st (-1 - ea)) || lateD (atT en q))) = true by rw [late_yes (.inl (by omega))]; rfl] at this
        rw [← hc8]
        exact this)
      have E9 : Hid (∀ w, Calls Tryz.prog 17 #[.agg c9] w fun e w' => e = .returned (.bool true) ∧ Below w.heap.size w w') := hide (fun w => by
        have := tf_.Extended std so true dst dof (atT st p) (atT en (86401 + r)) w ⟨hn, hso, by simp only [if_true]; exact ⟨hnd, hdo, atT_ok hst (by omega) (by omega), atT_ok hen (by omega) (by omega)⟩⟩
        rw [show (true && (lateD (atT st p) || lateD (atT en (86401 + r)))) = true by rw [late_no p0 p1, late_yes (.inr (by omega))]; rfl] at this
        rw [← hc9]
        exact this)
      have E10 : Hid (∀ w, Calls Tryz.prog 17 #[.agg c10] w fun e w' => e = .returned (.bool false) ∧ Below w.heap.size w w') := hide (fun w => by
        have := tf_.Extended std so false ⟨#[]⟩ 0 rd0 rd0 w hps
        rw [← hc10]
        exact this)
      have hlit : Hid (#[.string std, .int .i64 so, .bool false, .string ⟨#[]⟩, .int .i64 0, .int .i64 0, .int .i64 0, .int .i64 0, .int .i64 0, .int .i64 0, .int .i64 0, .int .i64 0, .int .i64 0, .int .i64 0, .int .i64 0, .int .i64 0, .int .i64 0] = c10) := hide hc10
      clear hv hcs hn hso hnd hdo hst hen hp hps hc6 hc7 hc8 hc9 hc10 hpp hqq hrr
      go_enter Tryz.func6, Tryz.ntmps6
      go_wp2_with fail
      refine (awake _ (by first | exact HT.out.below hb.out | exact HT.out.below (Hid.out (by assumption)))).mono ?_
      rintro e w1 ⟨rfl, h1⟩
      replace hB := hide (hB.out.below h1)
      replace hb := hide (bel_next hb.out h1)
      clear h1
      go_wp2_with (refine load_row_g (by rfl) 25 _ rfl _ rfl _ _ _ hB.out Tryz.underlying25 rfl G.1 ?_)
      refine (V.out _).mono ?_
      rintro e w1 ⟨rfl, h1⟩
      replace hB := hide (hB.out.below h1)
      replace hb := hide (bel_next hb.out h1)
      clear h1
      have y2 := (ro_cf hB.out 2 _ e2).1
      go_upto_region 4 with (first | (refine load_row_g (by rfl) 25 _ rfl _ rfl _ _ _ hB.out Tryz.underlying25 rfl G.1 ?_) | (refine wpList_store_row rfl 25 _ _ rfl _ _ rfl rfl _ _ (heap_alloc_last _ _) G.1 (by rw [G.2.1]; rfl) G.2.2 ?_; rw [World.setRow_alloc_new]))
      clear y2
      have l7_hB := hB.out.lt
      have b7 := hide (Ro.new w1 cs 25)
      replace hB := hide (hB.out.alloc (.cells cs 25))
      replace hb := hide (bl_alloc hb.out (.cells cs 25))
      generalize w1.heap.size = g7 at *
      generalize w1.alloc (.cells cs 25) = u1 at *
      obtain ⟨px, qx⟩ := ro_cf b7.out 10 _ f10
      go_upto_region 5 with fail
      clear px qx
      replace hB := hide (show Ro (u1.setCell ⟨g7, 10, none⟩ (.int .i64 p)) _ _ _ from ro_set_ne hB.out (by omega) 10 (.int .i64 p))
      replace b7 := hide (show Ro (u1.setCell ⟨g7, 10, none⟩ (.int .i64 p)) g7 c6 25 by have := ro_set b7.out 10 (.int .i64 p); rwa [ec6] at this)
      replace hb := hide (show Below w.heap.size w (u1.setCell ⟨g7, 10, none⟩ (.int .i64 p)) from bl_set hb.out (by omega) (.int .i64 p))
      generalize u1.setCell ⟨g7, 10, none⟩ (.int .i64 p) = u2 at *
      obtain ⟨px, qx⟩ := ro_cf b7.out 16 _ f16
      go_upto_region 6 with fail
      clear px qx
      replace hB := hide (show Ro (u2.setCell ⟨g7, 16, none⟩ (.int .i64 q)) _ _ _ from ro_set_ne hB.out (by omega) 16 (.int .i64 q))
      replace b7 := hide (show Ro (u2.setCell ⟨g7, 16, none⟩ (.int .i64 q)) g7 c7 25 by have := ro_set b7.out 16 (.int .i64 q); rwa [ec7] at this)
      replace hb := hide (show Below w.heap.size w (u2.setCell ⟨g7, 16, none⟩ (.int .i64 q)) from bl_set hb.out (by omega) (.int .i64 q))
      generalize u2.setCell ⟨g7, 16, none⟩ (.int .i64 q) = u3 at *
      go_upto_region 7 with (first | (refine load_row_g (by rfl) 25 _ rfl _ rfl _ _ _ b7.out Tryz.underlying25 rfl G7.1 ?_) | (refine wpList_store_row rfl 25 _ _ rfl _ _ rfl rfl _ _ (heap_alloc_last _ _) G7.1 (by rw [G7.2.1]; rfl) G7.2.2 ?_; rw [World.setRow_alloc_new]))
      have l8_hB := hB.out.lt
      have l8_b7 := b7.out.lt
      have b8 := hide (Ro.new u3 c7 25)
      replace hB := hide (hB.out.alloc (.cells c7 25))
      replace b7 := hide (b7.out.alloc (.cells c7 25))
      replace hb := hide (bl_alloc hb.out (.cells c7 25))
      generalize u3.heap.size = g8 at *
      generalize u3.alloc (.cells c7 25) = u4 at *
      obtain ⟨px, qx⟩ := ro_cf b8.out 10 _ f10b
      go_upto_region 8 with fail
      clear px qx
      replace hB := hide (show Ro (u4.setCell ⟨g8, 10, none⟩ (.int .i64 (-1 - ea))) _ _ _ from ro_set_ne hB.out (by omega) 10 (.int .i64 (-1 - ea)))
      replace b7 := hide (show Ro (u4.setCell ⟨g8, 10, none⟩ (.int .i64 (-1 - ea))) _ _ _ from ro_set_ne b7.out (by omega) 10 (.int .i64 (-1 - ea)))
      replace b8 := hide (show Ro (u4.setCell ⟨g8, 10, none⟩ (.int .i64 (-1 - ea))) g8 c8 25 by have := ro_set b8.out 10 (.int .i64 (-1 - ea)); rwa [ec8] at this)
      replace hb := hide (show Below w.heap.size w (u4.setCell ⟨g8, 10, none⟩ (.int .i64 (-1 - ea))) from bl_set hb.out (by omega) (.int .i64 (-1 - ea)))
      generalize u4.setCell ⟨g8, 10, none⟩ (.int .i64 (-1 - ea)) = u5 at *
      go_upto_region 9 with (first | (refine load_row_g (by rfl) 25 _ rfl _ rfl _ _ _ b7.out Tryz.underlying25 rfl G7.1 ?_) | (refine wpList_store_row rfl 25 _ _ rfl _ _ rfl rfl _ _ (heap_alloc_last _ _) G7.1 (by rw [G7.2.1]; rfl) G7.2.2 ?_; rw [World.setRow_alloc_new]))
      have l9_hB := hB.out.lt
      have l9_b7 := b7.out.lt
      have l9_b8 := b8.out.lt
      have b9 := hide (Ro.new u5 c7 25)
      replace hB := hide (hB.out.alloc (.cells c7 25))
      replace b7 := hide (b7.out.alloc (.cells c7 25))
      replace b8 := hide (b8.out.alloc (.cells c7 25))
      replace hb := hide (bl_alloc hb.out (.cells c7 25))
      generalize u5.heap.size = g9 at *
      generalize u5.alloc (.cells c7 25) = u6 at *
      obtain ⟨px, qx⟩ := ro_cf b9.out 16 _ f16b
      go_upto_region 10 with fail
      clear px qx
      replace hB := hide (show Ro (u6.setCell ⟨g9, 16, none⟩ (.int .i64 (86401 + r))) _ _ _ from ro_set_ne hB.out (by omega) 16 (.int .i64 (86401 + r)))
      replace b7 := hide (show Ro (u6.setCell ⟨g9, 16, none⟩ (.int .i64 (86401 + r))) _ _ _ from ro_set_ne b7.out (by omega) 16 (.int .i64 (86401 + r)))
      replace b8 := hide (show Ro (u6.setCell ⟨g9, 16, none⟩ (.int .i64 (86401 + r))) _ _ _ from ro_set_ne b8.out (by omega) 16 (.int .i64 (86401 + r)))
      replace b9 := hide (show Ro (u6.setCell ⟨g9, 16, none⟩ (.int .i64 (86401 + r))) g9 c9 25 by have := ro_set b9.out 16 (.int .i64 (86401 + r)); rwa [ec9] at this)
      replace hb := hide (show Below w.heap.size w (u6.setCell ⟨g9, 16, none⟩ (.int .i64 (86401 + r))) from bl_set hb.out (by omega) (.int .i64 (86401 + r)))
      generalize u6.setCell ⟨g9, 16, none⟩ (.int .i64 (86401 + r)) = u7 at *
      obtain ⟨px, _⟩ := ro_cf hB.out 0 _ f0
      obtain ⟨py, _⟩ := ro_cf hB.out 1 _ f1
      go_upto_region 11 with (refine wpList_store_row rfl 25 _ _ rfl _ _ rfl rfl _ _ (heap_alloc_last _ _) (by kernel_rfl) rfl (by simp [Value.oneCell']) ?_; rw [World.setRow_alloc_new])
      clear px py
      simp only [hlit.out]
      have l10_b7 := b7.out.lt
      have l10_b8 := b8.out.lt
      have l10_b9 := b9.out.lt
      have b10 := hide (Ro.new u7 c10 25)
      replace b7 := hide (b7.out.alloc (.cells c10 25))
      replace b8 := hide (b8.out.alloc (.cells c10 25))
      replace b9 := hide (b9.out.alloc (.cells c10 25))
      replace hb := hide (bl_alloc hb.out (.cells c10 25))
      generalize u7.heap.size = g10 at *
      generalize u7.alloc (.cells c10 25) = u8 at *
      go_wp2_with (refine load_row_g (by rfl) 25 _ rfl _ rfl _ _ _ b7.out Tryz.underlying25 rfl G7.1 ?_)
      refine (E7.out _).mono ?_
      rintro e w1 ⟨rfl, h1⟩
      replace b8 := hide (b8.out.below h1)
      replace b9 := hide (b9.out.below h1)
      replace b10 := hide (b10.out.below h1)
      replace hb := hide (bel_next hb.out h1)
      clear h1
      go_wp2_with (refine load_row_g (by rfl) 25 _ rfl _ rfl _ _ _ b8.out Tryz.underlying25 rfl G8.1 ?_)
      refine (E8.out _).mono ?_
      rintro e w1 ⟨rfl, h1⟩
      replace b9 := hide (b9.out.below h1)
      replace b10 := hide (b10.out.below h1)
      replace hb := hide (bel_next hb.out h1)
      clear h1
      go_wp2_with (refine load_row_g (by rfl) 25 _ rfl _ rfl _ _ _ b9.out Tryz.underlying25 rfl G9.1 ?_)
      refine (E9.out _).mono ?_
      rintro e w1 ⟨rfl, h1⟩
      replace b10 := hide (b10.out.below h1)
      replace hb := hide (bel_next hb.out h1)
      clear h1
      go_wp2_with (refine load_row_g (by rfl) 25 _ rfl _ rfl _ _ _ b10.out Tryz.underlying25 rfl G10.1 ?_)
      refine (E10.out _).mono ?_
      rintro e w1 ⟨rfl, h1⟩
      replace hb := hide (bel_next hb.out h1)
      clear h1
      go_wp2
      go_ret
      exact ⟨rfl, hb.out⟩
theorem ext_ (std : ByteArray) (so : Int) (hd : Bool) (dst : ByteArray) (dof K1 D1 M1 W1 V1 T1 K2 D2 M2 W2 V2 T2 : Int) (ea far : Int) (w : World) (hT : Tp w) (hs : std.size ≤ maxLen) (wso : (Lit.int .i64 so).wf = true) (ht : dst.size ≤ maxLen) (wdof : (Lit.int .i64 dof).wf = true) (wK1 : (Lit.int .i64 K1).wf = true) (wD1 : (Lit.int .i64 D1).wf = true) (wM1 : (Lit.int .i64 M1).wf = true) (wW1 : (Lit.int .i64 W1).wf = true) (wV1 : (Lit.int .i64 V1).wf = true) (wT1 : (Lit.int .i64 T1).wf = true) (wK2 : (Lit.int .i64 K2).wf = true) (wD2 : (Lit.int .i64 D2).wf = true) (wM2 : (Lit.int .i64 M2).wf = true) (wW2 : (Lit.int .i64 W2).wf = true) (wV2 : (Lit.int .i64 V2).wf = true) (wT2 : (Lit.int .i64 T2).wf = true) (wea : (Lit.int .u16 ea).wf = true) (wfar : (Lit.int .u32 far).wf = true) : Calls Tryz.prog 6 #[.agg #[.string std, .int .i64 so, .bool hd, .string dst, .int .i64 dof, .int .i64 K1, .int .i64 D1, .int .i64 M1, .int .i64 W1, .int .i64 V1, .int .i64 T1, .int .i64 K2, .int .i64 D2, .int .i64 M2, .int .i64 W2, .int .i64 V2, .int .i64 T2], .int .u16 ea, .int .u32 far] w fun e w' => e = .returned (.bool true) ∧ Below w.heap.size w w' := extC std so hd dst dof (K1, D1, M1, W1, V1, T1) (K2, D2, M2, W2, V2, T2) ea far w hT hs ht wea wfar
end l10_
end Go.Proofs.YtjeclakdgmjbjaaGreatDoor
