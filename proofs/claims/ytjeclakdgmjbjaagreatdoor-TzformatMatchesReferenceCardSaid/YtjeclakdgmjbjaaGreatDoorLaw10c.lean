/-
  THE WALKS OF THE LAWS OF LAYER 10 (zoneinfolaw10): TzformatParts. No conditions.
-/
import Derived.Test.YtjeclakdgmjbjaaGreatDoorLaw10b
import Derived.Test.YtjeclakdgmjbjaaGreatDoorRow2
namespace Go.Proofs.YtjeclakdgmjbjaaGreatDoor
open Go.ChangeShapes Go.WideShapes Go.ChangeAt Go.RowKit
set_option linter.unusedVariables false
namespace l10_
set_option maxRecDepth 100000 in
set_option maxHeartbeats 8000000 in
theorem partsC (std : ByteArray) (so : Int) (hd : Bool) (dst : ByteArray) (dof : Int) (st en : RD) (w : World) (hT : Tp w) (hs : std.size ≤ maxLen) (ht : dst.size ≤ maxLen) :
    Calls Tryz.prog 7 #[.agg (crule std so hd dst dof st en)] w fun e w' => e = .returned (.bool true) ∧ Below w.heap.size w w' := by
  have HT := hide hT
  clear hT
  have V := hide (fun w => r9_.Valid std so hd dst dof st en w hs ht)
  simp only [vrule_c] at V
  have G := gr_rule std so hd dst dof st en
  obtain ⟨cs, hcs⟩ : ∃ cs, crule std so hd dst dof st en = cs := ⟨_, rfl⟩
  rw [hcs] at V G ⊢
  have hb := hide (bl_new w (.cells cs 25))
  have hB := hide (Ro.new w cs 25)
  have e2 : cs[2]? = some (.bool hd) := by rw [← hcs]; rfl
  obtain ⟨v, hv⟩ : ∃ v, decide (prOk (byt std, so, hd, byt dst, dof, st, en)) = v := ⟨_, rfl⟩
  rw [hv] at V
  cases v
  · clear hcs hv
    go_enter Tryz.func7, Tryz.ntmps7
    go_wp2_with fail
    refine (awake _ (by first | exact HT.out.below hb.out | exact HT.out.below (Hid.out (by assumption)))).mono ?_
    rintro e w1 ⟨rfl, h1⟩
    replace hB := hide (hB.out.below h1)
    replace hb := hide (bel_next hb.out h1)
    clear h1
    go_wp2_with (refine load_row_g (by rfl) 25 _ rfl _ rfl _ _ _ hB.out Tryz.underlying25 rfl G.1 ?_)
    refine (V.out _).mono ?_
    rintro e w1 ⟨rfl, h1⟩
    replace hb := hide (bel_next hb.out h1)
    clear h1
    go_wp2_with fail
    refine (awake _ (by first | exact HT.out.below hb.out | exact HT.out.below (Hid.out (by assumption)))).mono ?_
    rintro e w1 ⟨rfl, h1⟩
    replace hb := hide (bel_next hb.out h1)
    clear h1
    go_wp2
    go_ret
    exact ⟨rfl, hb.out⟩
  · cases hd
    · clear hcs hv
      go_enter Tryz.func7, Tryz.ntmps7
      go_wp2_with fail
      refine (awake _ (by first | exact HT.out.below hb.out | exact HT.out.below (Hid.out (by assumption)))).mono ?_
      rintro e w1 ⟨rfl, h1⟩
      replace hB := hide (hB.out.below h1)
      replace hb := hide (bel_next hb.out h1)
      clear h1
      go_wp2_with (refine load_row_g (by rfl) 25 _ rfl _ rfl _ _ _ hB.out Tryz.underlying25 rfl G.1 ?_)
      refine (V.out _).mono ?_
      rintro e w1 ⟨rfl, h1⟩
      replace hB := hide (hB.out.below h1)
      replace hb := hide (bel_next hb.out h1)
      clear h1
      have x2 := (ro_cf hB.out 2 _ e2).1
      go_wp2_with fail
      refine (awake _ (by first | exact HT.out.below hb.out | exact HT.out.below (Hid.out (by assumption)))).mono ?_
      rintro e w1 ⟨rfl, h1⟩
      replace hb := hide (bel_next hb.out h1)
      clear h1
      go_wp2
      go_ret
      exact ⟨rfl, hb.out⟩
    · have hp := of_decide_eq_true hv
      obtain ⟨hn, hso, hr⟩ := id hp
      simp only [if_true] at hn hso hr
      obtain ⟨hnd, hdo, hst, hen⟩ := hr
      have Ff := hide (fun w hT => tf_.Format std so true dst dof st en w hT hp)
      simp only [vrule_c] at Ff
      rw [hcs] at Ff
      have hps : prOk (byt std, so, false, byt ⟨#[]⟩, 0, rd0, rd0) := ⟨hn, hso, by simp [byt]⟩
      have Fs : Hid (∀ w, Tp w → Calls Tryz.prog 15 #[.agg #[.string std, .int .i64 so, .bool false, .string ⟨#[]⟩, .int .i64 0, .int .i64 0, .int .i64 0, .int .i64 0, .int .i64 0, .int .i64 0, .int .i64 0, .int .i64 0, .int .i64 0, .int .i64 0, .int .i64 0, .int .i64 0, .int .i64 0]] w fun e w' => e = .returned (.string (mkS (ruleF (byt std, so, false, byt ⟨#[]⟩, 0, rd0, rd0)))) ∧ Below w.heap.size w w') := hide (fun w hT => tf_.Format std so false ⟨#[]⟩ 0 rd0 rd0 w hT hps)
      have DS := hide (fun w hT => tf_.Day st w hT hst)
      have DE := hide (fun w hT => tf_.Day en w hT hen)
      unfold vday at DS DE
      obtain ⟨SS, hs', zs, bs⟩ := dstr_ hst
      obtain ⟨SE, he', ze, be⟩ := dstr_ hen
      rw [← hs'] at DS
      rw [← he'] at DE
      obtain ⟨A1, u1, c1, k1⟩ := cat_ ⟨#[44]⟩ SS 200 (by have : (⟨#[44]⟩ : ByteArray).size = 1 := rfl; omega) (by decide)
      obtain ⟨A2, u2, c2, k2⟩ := cat_ A1 ⟨#[44]⟩ 210 (by have : (⟨#[44]⟩ : ByteArray).size = 1 := rfl; omega) (by decide)
      obtain ⟨A3, u3, c3, k3⟩ := cat_ A2 SE 400 (by omega) (by decide)
      have hA3 : byt A3 = 44 :: (dayC st ++ 44 :: dayC en) := by rw [c3, c2, c1, bs, be]; simp [byt]
      obtain ⟨T, hT, bT⟩ : ∃ T : ByteArray, mkS (ruleF (byt std, so, true, byt dst, dof, st, en)) = T ∧ byt T = ruleF (byt std, so, true, byt dst, dof, st, en) := ⟨_, rfl, byt_mk _⟩
      obtain ⟨U, hU, bU⟩ : ∃ U : ByteArray, mkS (ruleF (byt std, so, false, byt ⟨#[]⟩, 0, rd0, rd0)) = U ∧ byt U = ruleF (byt std, so, false, byt ⟨#[]⟩, 0, rd0, rd0) := ⟨_, rfl, byt_mk _⟩
      rw [hT] at Ff
      rw [hU] at Fs
      obtain ⟨Mm, hM, hM1⟩ : ∃ Mm : List UInt8, byt T = byt U ++ (Mm ++ byt A3) ∧ 1 ≤ Mm.length := by
        refine ⟨tnFmt (byt dst) ++ (if dof - so = 3600 then [] else hmsFmt (-dof)), ?_, ?_⟩
        · rw [bT, bU, hA3]
          unfold ruleF
          simp
        · have := tnFmt_len1 hnd
          rw [List.length_append]
          omega
      have hTsz : T.size ≤ 1100 := by
        have h1 := tnFmt_l hn
        have h2 := tnFmt_l hnd
        have h3 := hmsFmt_len (x := -so) (by unfold offOk at hso; omega) (by unfold offOk at hso; omega)
        have h4 := hmsFmt_len (x := -dof) (by unfold offOk at hdo; omega) (by unfold offOk at hdo; omega)
        have h5 := dayC_len hst
        have h6 := dayC_len hen
        rw [← len_byt, bT]
        unfold ruleF
        simp only [if_true, List.length_append, List.length_cons]
        split
        · simp; omega
        · omega
      have hlen := congrArg List.length hM
      rw [List.length_append, List.length_append, len_byt, len_byt, len_byt] at hlen
      have x1 : T.extract 0 U.size = U := by
        apply byt_inj.1
        rw [byt_extract, hM, List.drop_zero]
        rw [List.take_left' (by rw [len_byt])]
      have x2 : T.extract (U.size + (Mm.length + A3.size) - A3.size) (U.size + (Mm.length + A3.size)) = A3 := by
        rw [← hlen]
        apply byt_inj.1
        rw [byt_rest, hM, ← List.append_assoc, List.drop_left' (by rw [List.length_append, len_byt]; omega)]
      have eU := seq_eq (rfl : U = U)
      have eA := seq_eq (rfl : A3 = A3)
      have f5 : cs[5]? = some (.int .i64 st.1) ∧ cs[6]? = some (.int .i64 st.2.1) ∧ cs[7]? = some (.int .i64 st.2.2.1) ∧ cs[8]? = some (.int .i64 st.2.2.2.1) ∧ cs[9]? = some (.int .i64 st.2.2.2.2.1) ∧ cs[10]? = some (.int .i64 st.2.2.2.2.2) ∧ cs[11]? = some (.int .i64 en.1) ∧ cs[12]? = some (.int .i64 en.2.1) ∧ cs[13]? = some (.int .i64 en.2.2.1) ∧ cs[14]? = some (.int .i64 en.2.2.2.1) ∧ cs[15]? = some (.int .i64 en.2.2.2.2.1) ∧ cs[16]? = some (.int .i64 en.2.2.2.2.2) := by rw [← hcs]; exact ⟨rfl, rfl, rfl, rfl, rfl, rfl, rfl, rfl, rfl, rfl, rfl, rfl⟩
      have f0 : cs[0]? = some (.string std) := by rw [← hcs]; rfl
      have f1 : cs[1]? = some (.int .i64 so) := by rw [← hcs]; rfl
      obtain ⟨g5, g6, g7, g8, g9, g10, g11, g12, g13, g14, g15, g16⟩ := f5
      replace hM := hide hM
      clear hv hcs hn hso hnd hdo hst hen hp hps hs' he' bs be c1 c2 c3 hA3 hT hU bT bU u1 u2 zs ze
      go_enter Tryz.func7, Tryz.ntmps7
      go_wp2_with fail
      refine (awake _ (by first | exact HT.out.below hb.out | exact HT.out.below (Hid.out (by assumption)))).mono ?_
      rintro e w1 ⟨rfl, h1⟩
      replace hB := hide (hB.out.below h1)
      replace hb := hide (bel_next hb.out h1)
      clear h1
      go_wp2_with (refine load_row_g (by rfl) 25 _ rfl _ rfl _ _ _ hB.out Tryz.underlying25 rfl G.1 ?_)
      refine (V.out _).mono ?_
      rintro e w1 ⟨rfl, h1⟩
      replace hB := hide (hB.out.below h1)
      replace hb := hide (bel_next hb.out h1)
      clear h1
      have y2 := (ro_cf hB.out 2 _ e2).1
      go_wp2_with (refine load_row_g (by rfl) 25 _ rfl _ rfl _ _ _ hB.out Tryz.underlying25 rfl G.1 ?_)
      refine (Ff.out _ (by first | exact HT.out.below hb.out | exact HT.out.below (Hid.out (by assumption)))).mono ?_
      rintro e w1 ⟨rfl, h1⟩
      replace hB := hide (hB.out.below h1)
      replace hb := hide (bel_next hb.out h1)
      clear h1
      clear y2
      have y0 := (ro_cf hB.out 0 _ f0).1
      have y1 := (ro_cf hB.out 1 _ f1).1
      go_wp2_with fail
      refine (Fs.out _ (by first | exact HT.out.below hb.out | exact HT.out.below (Hid.out (by assumption)))).mono ?_
      rintro e w1 ⟨rfl, h1⟩
      replace hB := hide (hB.out.below h1)
      replace hb := hide (bel_next hb.out h1)
      clear h1
      clear y0 y1
      go_upto_region 5 with fail
      go_region_held3 (fun w' => w'.cell? ⟨w.heap.size, 5, none⟩ = some (.int .i64 st.1) ∧ w'.cell? ⟨w.heap.size, 6, none⟩ = some (.int .i64 st.2.1) ∧ w'.cell? ⟨w.heap.size, 7, none⟩ = some (.int .i64 st.2.2.1) ∧ w'.cell? ⟨w.heap.size, 8, none⟩ = some (.int .i64 st.2.2.2.1) ∧ w'.cell? ⟨w.heap.size, 9, none⟩ = some (.int .i64 st.2.2.2.2.1) ∧ w'.cell? ⟨w.heap.size, 10, none⟩ = some (.int .i64 st.2.2.2.2.2) ∧ w'.cell? ⟨w.heap.size, 11, none⟩ = some (.int .i64 en.1) ∧ w'.cell? ⟨w.heap.size, 12, none⟩ = some (.int .i64 en.2.1) ∧ w'.cell? ⟨w.heap.size, 13, none⟩ = some (.int .i64 en.2.2.1) ∧ w'.cell? ⟨w.heap.size, 14, none⟩ = some (.int .i64 en.2.2.2.1) ∧ w'.cell? ⟨w.heap.size, 15, none⟩ = some (.int .i64 en.2.2.2.2.1) ∧ w'.cell? ⟨w.heap.size, 16, none⟩ = some (.int .i64 en.2.2.2.2.2) ∧ Hid (Ro w' w.heap.size cs 25) ∧ Hid (Below w.heap.size w w'))
        (first
          | exact ⟨(ro_cf hB.out 5 _ g5).1, (ro_cf hB.out 6 _ g6).1, (ro_cf hB.out 7 _ g7).1, (ro_cf hB.out 8 _ g8).1, (ro_cf hB.out 9 _ g9).1, (ro_cf hB.out 10 _ g10).1, (ro_cf hB.out 11 _ g11).1, (ro_cf hB.out 12 _ g12).1, (ro_cf hB.out 13 _ g13).1, (ro_cf hB.out 14 _ g14).1, (ro_cf hB.out 15 _ g15).1, (ro_cf hB.out 16 _ g16).1, hB, by first | exact hb | exact hide (bl_drew hb.out)⟩
          | (go_split_ands; refine ⟨?_, ?_, ?_, ?_, ?_, ?_, ?_, ?_, ?_, ?_, ?_, ?_, ?_, ?_⟩ <;> first | exact cellE h1' (by assumption) | exact hide (Ro.below (Hid.out (by assumption)) h1') | exact hide (bel_next (Hid.out (by assumption)) h1')))
        (first
          | (go_at_call 12; go_split_ands; with_reducible refine (DS.out _ (by first | exact HT.out.below hb.out | exact HT.out.below (Hid.out (by assumption)))).mono ?_; rintro e w6 ⟨rfl, h1'⟩)
          | (go_at_call 12; go_split_ands; with_reducible refine (DE.out _ (by first | exact HT.out.below hb.out | exact HT.out.below (Hid.out (by assumption)))).mono ?_; rintro e w6 ⟨rfl, h1'⟩))
      all_goals
        try go_split_ands
        clear hB hb
        rename Hid (Below _ _ _) => hb
        clear k1 k2 k3
        go_wp2
        go_ret
        exact ⟨rfl, hb.out⟩
theorem parts (std : ByteArray) (so : Int) (hd : Bool) (dst : ByteArray) (dof K1 D1 M1 W1 V1 T1 K2 D2 M2 W2 V2 T2 : Int) (w : World) (hT : Tp w) (hs : std.size ≤ maxLen) (wso : (Lit.int .i64 so).wf = true) (ht : dst.size ≤ maxLen) (wdof : (Lit.int .i64 dof).wf = true) (wK1 : (Lit.int .i64 K1).wf = true) (wD1 : (Lit.int .i64 D1).wf = true) (wM1 : (Lit.int .i64 M1).wf = true) (wW1 : (Lit.int .i64 W1).wf = true) (wV1 : (Lit.int .i64 V1).wf = true) (wT1 : (Lit.int .i64 T1).wf = true) (wK2 : (Lit.int .i64 K2).wf = true) (wD2 : (Lit.int .i64 D2).wf = true) (wM2 : (Lit.int .i64 M2).wf = true) (wW2 : (Lit.int .i64 W2).wf = true) (wV2 : (Lit.int .i64 V2).wf = true) (wT2 : (Lit.int .i64 T2).wf = true) : Calls Tryz.prog 7 #[.agg #[.string std, .int .i64 so, .bool hd, .string dst, .int .i64 dof, .int .i64 K1, .int .i64 D1, .int .i64 M1, .int .i64 W1, .int .i64 V1, .int .i64 T1, .int .i64 K2, .int .i64 D2, .int .i64 M2, .int .i64 W2, .int .i64 V2, .int .i64 T2]] w fun e w' => e = .returned (.bool true) ∧ Below w.heap.size w w' := partsC std so hd dst dof (K1, D1, M1, W1, V1, T1) (K2, D2, M2, W2, V2, T2) w hT hs ht
end l10_
end Go.Proofs.YtjeclakdgmjbjaaGreatDoor
