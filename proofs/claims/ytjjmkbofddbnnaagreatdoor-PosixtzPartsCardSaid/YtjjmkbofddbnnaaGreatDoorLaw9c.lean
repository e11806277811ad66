/-
  THE WALKS OF THE LAWS OF LAYER 9 (zoneinfolaw09): PosixtzParts. No conditions.
-/
import Derived.Test.YtjjmkbofddbnnaaGreatDoorLaw9
import Derived.Test.YtjjmkbofddbnnaaGreatDoorDyF
import Derived.Test.YtjjmkbofddbnnaaGreatDoorRdRef
namespace Go.Proofs.YtjjmkbofddbnnaaGreatDoor
open Go.ChangeShapes Go.WideShapes Go.ChangeAt Go.RowKit
set_option linter.unusedVariables false
namespace l9_
set_option maxRecDepth 100000 in
set_option maxHeartbeats 8000000 in
theorem parts (std dst : ByteArray) (a b K1 D1 M1 W1 V1 T1 K2 D2 M2 W2 V2 T2 : Int) (w : World) (hs : std.size ≤ maxLen) (ht : dst.size ≤ maxLen) (wa : (Lit.int .i64 a).wf = true) (wb : (Lit.int .i64 b).wf = true) (w10 : (Lit.int .i64 K1).wf = true) (w11 : (Lit.int .i64 D1).wf = true) (w12 : (Lit.int .i64 M1).wf = true) (w13 : (Lit.int .i64 W1).wf = true) (w14 : (Lit.int .i64 V1).wf = true) (w15 : (Lit.int .i64 T1).wf = true) (w20 : (Lit.int .i64 K2).wf = true) (w21 : (Lit.int .i64 D2).wf = true) (w22 : (Lit.int .i64 M2).wf = true) (w23 : (Lit.int .i64 W2).wf = true) (w24 : (Lit.int .i64 V2).wf = true) (w25 : (Lit.int .i64 T2).wf = true) :
    Calls Tryz.prog 3 #[.string std, .string dst, .int .i64 a, .int .i64 b, .agg #[.int .i64 K1, .int .i64 D1, .int .i64 M1, .int .i64 W1, .int .i64 V1, .int .i64 T1], .agg #[.int .i64 K2, .int .i64 D2, .int .i64 M2, .int .i64 W2, .int .i64 V2, .int .i64 T2]] w fun e w' => e = .returned (.bool true) ∧ Below w.heap.size w w' := by
  obtain ⟨a0, a1⟩ := wf_i64 wa
  obtain ⟨b0, b1'⟩ := wf_i64 wb
  clear wa wb w10 w20 w11 w21 w12 w22 w13 w23 w14 w24 w15 w25
  have hb := hide (bl_alloc (bl_new w (.cells #[.int .i64 K1, .int .i64 D1, .int .i64 M1, .int .i64 W1, .int .i64 V1, .int .i64 T1] 23)) (.cells #[.int .i64 K2, .int .i64 D2, .int .i64 M2, .int .i64 W2, .int .i64 V2, .int .i64 T2] 23))
  have b1 := hide ((Bx.new w [.int .i64 K1, .int .i64 D1, .int .i64 M1, .int .i64 W1, .int .i64 V1, .int .i64 T1] 23).alloc (.cells #[.int .i64 K2, .int .i64 D2, .int .i64 M2, .int .i64 W2, .int .i64 V2, .int .i64 T2] 23))
  have b2 : Hid (Bx ((w.alloc (.cells #[.int .i64 K1, .int .i64 D1, .int .i64 M1, .int .i64 W1, .int .i64 V1, .int .i64 T1] 23)).alloc (.cells #[.int .i64 K2, .int .i64 D2, .int .i64 M2, .int .i64 W2, .int .i64 V2, .int .i64 T2] 23)) (w.heap.size + 1) [.int .i64 K2, .int .i64 D2, .int .i64 M2, .int .i64 W2, .int .i64 V2, .int .i64 T2]) := hide (by
    have := Bx.new (w.alloc (.cells #[.int .i64 K1, .int .i64 D1, .int .i64 M1, .int .i64 W1, .int .i64 V1, .int .i64 T1] 23)) [.int .i64 K2, .int .i64 D2, .int .i64 M2, .int .i64 W2, .int .i64 V2, .int .i64 T2] 23
    simpa using this)
  by_cases n1 : nameOk (byt std) = true
  · by_cases n2 : nameOk (byt dst) = true
    · have za := (nameOk_iff.1 n1).2.1
      have zb := (nameOk_iff.1 n2).2.1
      rw [len_byt] at za zb
      have N1 : Hid (∀ w, Calls Tryz.prog 7 #[.string std] w fun e w' => e = .returned (.bool true) ∧ w = w') := hide (fun w => by
        have := r7_.Valid std w hs
        rwa [n1] at this)
      have N2 : Hid (∀ w, Calls Tryz.prog 7 #[.string dst] w fun e w' => e = .returned (.bool true) ∧ w = w') := hide (fun w => by
        have := r7_.Valid dst w ht
        rwa [n2] at this)
      by_cases ha : offOk a
      · by_cases hbo : offOk b
        · obtain ⟨a2, a3⟩ := id ha
          obtain ⟨b3, b4⟩ := id hbo
          by_cases r1 : RdOk K1 D1 M1 W1 V1 T1
          · by_cases r2 : RdOk K2 D2 M2 W2 V2 T2
            · have q1 : rdOk (K1, D1, M1, W1, V1, T1) := r1
              have q2 : rdOk (K2, D2, M2, W2, V2, T2) := r2
              have R1 : Hid (∀ w, Calls Tryz.prog 8 #[.agg #[.int .i64 K1, .int .i64 D1, .int .i64 M1, .int .i64 W1, .int .i64 V1, .int .i64 T1]] w fun e w' => e = .returned (.bool true) ∧ Below w.heap.size w w') := hide (fun w => by
                have := r6_.Valid K1 D1 M1 W1 V1 T1 w
                rwa [decide_eq_true r1] at this)
              have R2 : Hid (∀ w, Calls Tryz.prog 8 #[.agg #[.int .i64 K2, .int .i64 D2, .int .i64 M2, .int .i64 W2, .int .i64 V2, .int .i64 T2]] w fun e w' => e = .returned (.bool true) ∧ Below w.heap.size w w') := hide (fun w => by
                have := r6_.Valid K2 D2 M2 W2 V2 T2 w
                rwa [decide_eq_true r2] at this)
              obtain ⟨Fa, hFa, zFa, yFa⟩ : ∃ S : ByteArray, S = mkS (hmsFmt a) ∧ S.size ≤ 20 ∧ byt S = hmsFmt a := ⟨_, rfl, by rw [size_mk]; have := hmsFmt_len (x := a) (by omega) (by omega); omega, byt_mk _⟩
              obtain ⟨Fb, hFb, zFb, yFb⟩ : ∃ S : ByteArray, S = mkS (hmsFmt b) ∧ S.size ≤ 20 ∧ byt S = hmsFmt b := ⟨_, rfl, by rw [size_mk]; have := hmsFmt_len (x := b) (by omega) (by omega); omega, byt_mk _⟩
              obtain ⟨Fd, hFd, zFd, yFd⟩ : ∃ S : ByteArray, S = mkS (tnFmt (byt dst)) ∧ S.size ≤ 300 ∧ byt S = tnFmt (byt dst) := ⟨_, rfl, by rw [size_mk]; have := tnFmt_len (byt dst); rw [len_byt] at this; omega, byt_mk _⟩
              obtain ⟨Fx, hFx, zFx, yFx⟩ : ∃ S : ByteArray, S = mkS (dayF (K1, D1, M1, W1, V1, T1)) ∧ S.size ≤ 100 ∧ byt S = dayF (K1, D1, M1, W1, V1, T1) := ⟨_, rfl, by rw [size_mk]; exact dayF_len q1, byt_mk _⟩
              obtain ⟨Fy, hFy, zFy, yFy⟩ : ∃ S : ByteArray, S = mkS (dayF (K2, D2, M2, W2, V2, T2)) ∧ S.size ≤ 100 ∧ byt S = dayF (K2, D2, M2, W2, V2, T2) := ⟨_, rfl, by rw [size_mk]; exact dayF_len q2, byt_mk _⟩
              have Ga := hide (fun w => r8_.Format a w (by omega) (by omega))
              have Gb := hide (fun w => r8_.Format b w (by omega) (by omega))
              have Gd : Hid (∀ w, Calls Tryz.prog 11 #[.string dst] w fun e w' => e = .returned (.string (mkS (tnFmt (byt dst)))) ∧ Below w.heap.size w w') := hide (fun w => (r7_.Format dst w (by omega)).mono (by rintro e w' ⟨rfl, rfl⟩; exact ⟨rfl, bl_refl _⟩))
              have Gx := hide (fun w => day (K1, D1, M1, W1, V1, T1) w q1)
              have Gy := hide (fun w => day (K2, D2, M2, W2, V2, T2) w q2)
              rw [← hFa] at Ga
              rw [← hFb] at Gb
              rw [← hFd] at Gd
              rw [← hFx] at Gx
              rw [← hFy] at Gy
              simp only [vday] at Gx Gy
              have z60 : (⟨#[60]⟩ : ByteArray).size = 1 := rfl
              have z62 : (⟨#[62]⟩ : ByteArray).size = 1 := rfl
              have z44 : (⟨#[44]⟩ : ByteArray).size = 1 := rfl
              obtain ⟨B1, zB1, yB1, j1⟩ := cat ⟨#[60]⟩ std 260 (by omega) (by decide)
              obtain ⟨B2, zB2, yB2, j2⟩ := cat B1 ⟨#[62]⟩ 261 (by omega) (by decide)
              obtain ⟨B3, zB3, yB3, j3⟩ := cat B2 Fa 290 (by omega) (by decide)
              obtain ⟨C1, zC1, yC1, k1⟩ := cat B3 Fd 600 (by omega) (by decide)
              obtain ⟨C2, zC2, yC2, k2⟩ := cat C1 Fb 700 (by omega) (by decide)
              obtain ⟨C3, zC3, yC3, k3⟩ := cat C2 ⟨#[44]⟩ 701 (by omega) (by decide)
              obtain ⟨C4, zC4, yC4, k4⟩ := cat C3 Fx 801 (by omega) (by decide)
              obtain ⟨C5, zC5, yC5, k5⟩ := cat C4 ⟨#[44]⟩ 802 (by omega) (by decide)
              obtain ⟨C6, zC6, yC6, k6⟩ := cat C5 Fy 902 (by omega) (by decide)
              have P1 := hide (fun w => po_.Parse B3 w (by omega))
              have P2 := hide (fun w => po_.Parse C6 w (by omega))
              have e3 : byt B3 = 60 :: (byt std ++ 62 :: hmsFmt a) := by
                rw [yB3, yB2, yB1, yFa]; simp [byt]
              have e6 : byt C6 = 60 :: (byt std ++ 62 :: (hmsFmt a ++ (tnFmt (byt dst) ++ (hmsFmt b ++ 44 :: (dayF (K1, D1, M1, W1, V1, T1) ++ 44 :: dayF (K2, D2, M2, W2, V2, T2)))))) := by
                rw [yC6, yC5, yC4, yC3, yC2, yC1, e3, yFd, yFb, yFx, yFy]; simp [byt]
              rw [e3, ptParse_std n1 ha] at P1
              rw [e6, ptParse_dst n1 ha (fun t ht => tnParse_fmt t n2 (.inr ht)) (fun t => tnFmt_head n2 t) (tnFmt_len1 n2) hbo (ptDay_full q1 (hstop44 _)) (by have := ptDay_full (tail := []) q2 hstop_nil; rwa [List.append_nil] at this)] at P2
              simp only [ptRes, vrule_c] at P1 P2
              have G1 := gr_rule (mkS (byt std)) (-a) false (mkS []) 0 rd0 rd0
              have G2 := gr_rule (mkS (byt std)) (-a) true (mkS (byt dst)) (-b) (K1, D1, M1, W1, V1, T1) (K2, D2, M2, W2, V2, T2)
              obtain ⟨c1, hc1⟩ : ∃ c, c = crule (mkS (byt std)) (-a) false (mkS []) 0 rd0 rd0 := ⟨_, rfl⟩
              obtain ⟨c2, hc2⟩ : ∃ c, c = crule (mkS (byt std)) (-a) true (mkS (byt dst)) (-b) (K1, D1, M1, W1, V1, T1) (K2, D2, M2, W2, V2, T2) := ⟨_, rfl⟩
              have t1 : ∀ w : World, (binOp .neq 29 (.agg c1) (.agg #[.string std, .int .i64 (-a), .bool false, .string ⟨#[]⟩, .int .i64 0, .int .i64 0, .int .i64 0, .int .i64 0, .int .i64 0, .int .i64 0, .int .i64 0, .int .i64 0, .int .i64 0, .int .i64 0, .int .i64 0, .int .i64 0, .int .i64 0])).run Tryz.prog w = .ok (.bool false) w := fun _ => by rw [hc1, mk_byt]; simp [go_sem, crule, mkS, rd0]
              have t2 : ∀ w : World, (binOp .eql 29 (.agg c2) (.agg #[.string std, .int .i64 (-a), .bool true, .string dst, .int .i64 (-b), .int .i64 K1, .int .i64 D1, .int .i64 M1, .int .i64 W1, .int .i64 V1, .int .i64 T1, .int .i64 K2, .int .i64 D2, .int .i64 M2, .int .i64 W2, .int .i64 V2, .int .i64 T2])).run Tryz.prog w = .ok (.bool true) w := fun _ => by rw [hc2, mk_byt, mk_byt]; simp [go_sem, crule]
              rw [← hc1] at P1 G1
              rw [← hc2] at P2 G2
              clear hc1 hc2 hFa hFb hFd hFx hFy yFa yFb yFd yFx yFy yB1 yB2 yB3 yC1 yC2 yC3 yC4 yC5 yC6 e3 e6 r1 r2 q1 q2 n1 n2 ha hbo hs ht z60 z62 z44
              replace G1 := hide G1
              replace G2 := hide G2
              go_enter Tryz.func3, Tryz.ntmps3
              go_wp2_with fail
              refine (awake _).mono ?_
              rintro e w1 ⟨rfl, h1⟩
              replace b1 := hide (b1.out.below h1)
              replace b2 := hide (b2.out.below h1)
              replace hb := hide (bel_next hb.out h1)
              clear h1
              go_wp2_with fail
              refine (N1.out _).mono ?_
              rintro e w2 ⟨rfl, rfl⟩
              go_wp2_with fail
              refine (N2.out _).mono ?_
              rintro e w2 ⟨rfl, rfl⟩
              obtain ⟨x0, x1, x2, x3, x4, x5⟩ := cells6' b1.out
              obtain ⟨y0, y1, y2, y3, y4, y5⟩ := cells6' b2.out
              go_wp2_with fail
              refine (R1.out _).mono ?_
              rintro e w1 ⟨rfl, h1⟩
              replace b1 := hide (b1.out.below h1)
              replace b2 := hide (b2.out.below h1)
              replace hb := hide (bel_next hb.out h1)
              clear h1
              clear x0 x1 x2 x3 x4 x5 y0 y1 y2 y3 y4 y5
              obtain ⟨x0, x1, x2, x3, x4, x5⟩ := cells6' b1.out
              obtain ⟨y0, y1, y2, y3, y4, y5⟩ := cells6' b2.out
              go_wp2_with fail
              refine (R2.out _).mono ?_
              rintro e w1 ⟨rfl, h1⟩
              replace b1 := hide (b1.out.below h1)
              replace b2 := hide (b2.out.below h1)
              replace hb := hide (bel_next hb.out h1)
              clear h1
              clear x0 x1 x2 x3 x4 x5 y0 y1 y2 y3 y4 y5
              go_wp2_with fail
              refine (Ga.out _).mono ?_
              rintro e w1 ⟨rfl, h1⟩
              replace b1 := hide (b1.out.below h1)
              replace b2 := hide (b2.out.below h1)
              replace hb := hide (bel_next hb.out h1)
              clear h1
              go_wp2_with fail
              refine (P1.out _).mono ?_
              rintro e w1 ⟨rfl, h1⟩
              replace b1 := hide (b1.out.below h1)
              replace b2 := hide (b2.out.below h1)
              replace hb := hide (bel_next hb.out h1)
              clear h1
              have b3 := hide (Ro.new w1 c1 29)
              replace b1 := hide (b1.out.alloc (.cells c1 29))
              replace b2 := hide (b2.out.alloc (.cells c1 29))
              replace hb := hide (bl_alloc hb.out (.cells c1 29))
              have H1 := G1.out
              go_upto_region 7 with (first | (refine wpList_store_row rfl 29 _ _ rfl _ _ rfl rfl _ _ (heap_alloc_last _ _) H1.1 (by rw [H1.2.1]; rfl) H1.2.2 ?_; rw [World.setRow_alloc_new]) | (refine load_row_g (by rfl) 29 _ rfl _ rfl _ _ _ b3.out Tryz.underlying29 rfl H1.1 ?_))
              clear b3 H1
              go_region_held3 (fun w' => w'.cell? ⟨w.heap.size, 0, none⟩ = some (.int .i64 K1) ∧ w'.cell? ⟨w.heap.size, 1, none⟩ = some (.int .i64 D1) ∧ w'.cell? ⟨w.heap.size, 2, none⟩ = some (.int .i64 M1) ∧ w'.cell? ⟨w.heap.size, 3, none⟩ = some (.int .i64 W1) ∧ w'.cell? ⟨w.heap.size, 4, none⟩ = some (.int .i64 V1) ∧ w'.cell? ⟨w.heap.size, 5, none⟩ = some (.int .i64 T1) ∧ w'.cell? ⟨w.heap.size + 1, 0, none⟩ = some (.int .i64 K2) ∧ w'.cell? ⟨w.heap.size + 1, 1, none⟩ = some (.int .i64 D2) ∧ w'.cell? ⟨w.heap.size + 1, 2, none⟩ = some (.int .i64 M2) ∧ w'.cell? ⟨w.heap.size + 1, 3, none⟩ = some (.int .i64 W2) ∧ w'.cell? ⟨w.heap.size + 1, 4, none⟩ = some (.int .i64 V2) ∧ w'.cell? ⟨w.heap.size + 1, 5, none⟩ = some (.int .i64 T2) ∧ Hid (Bx w' w.heap.size [.int .i64 K1, .int .i64 D1, .int .i64 M1, .int .i64 W1, .int .i64 V1, .int .i64 T1]) ∧ Hid (Bx w' (w.heap.size + 1) [.int .i64 K2, .int .i64 D2, .int .i64 M2, .int .i64 W2, .int .i64 V2, .int .i64 T2]) ∧ Hid (Below w.heap.size w w'))
                (first
                  | exact ⟨(cells6' b1.out).1, (cells6' b1.out).2.1, (cells6' b1.out).2.2.1, (cells6' b1.out).2.2.2.1, (cells6' b1.out).2.2.2.2.1, (cells6' b1.out).2.2.2.2.2, (cells6' b2.out).1, (cells6' b2.out).2.1, (cells6' b2.out).2.2.1, (cells6' b2.out).2.2.2.1, (cells6' b2.out).2.2.2.2.1, (cells6' b2.out).2.2.2.2.2, b1, b2, by first | exact hb | exact hide (bl_drew hb.out)⟩
                  | (go_split_ands; refine ⟨?_, ?_, ?_, ?_, ?_, ?_, ?_, ?_, ?_, ?_, ?_, ?_, ?_, ?_, ?_⟩ <;> first | exact cellE h1' (by assumption) | exact hide (Bx.below (Hid.out (by assumption)) h1') | exact hide (bel_next (Hid.out (by assumption)) h1')))
                (first
                  | (go_at_call 11; go_split_ands; with_reducible refine (Gd.out _).mono ?_; rintro e w6 ⟨rfl, h1'⟩)
                  | (go_at_call 9; go_split_ands; with_reducible refine (Gb.out _).mono ?_; rintro e w6 ⟨rfl, h1'⟩)
                  | (go_at_call 12; go_split_ands; with_reducible refine (Gx.out _).mono ?_; rintro e w6 ⟨rfl, h1'⟩)
                  | (go_at_call 12; go_split_ands; with_reducible refine (Gy.out _).mono ?_; rintro e w6 ⟨rfl, h1'⟩))
              all_goals try go_split_ands
              all_goals clear b1 b2 hb
              all_goals rename Hid (Bx _ w.heap.size _) => b1
              all_goals rename Hid (Bx _ (w.heap.size + 1) _) => b2
              all_goals rename Hid (Below _ _ _) => hb
              go_wp2_with fail
              refine (P2.out _).mono ?_
              rintro e w1 ⟨rfl, h1⟩
              replace b1 := hide (b1.out.below h1)
              replace b2 := hide (b2.out.below h1)
              replace hb := hide (bel_next hb.out h1)
              clear h1
              have b4 := hide (Ro.new w1 c2 29)
              replace b1 := hide (b1.out.alloc (.cells c2 29))
              replace b2 := hide (b2.out.alloc (.cells c2 29))
              replace hb := hide (bl_alloc hb.out (.cells c2 29))
              have H2 := G2.out
              obtain ⟨x0, x1, x2, x3, x4, x5⟩ := cells6' b1.out
              obtain ⟨y0, y1, y2, y3, y4, y5⟩ := cells6' b2.out
              go_upto_region 10 with (first | (refine wpList_store_row rfl 29 _ _ rfl _ _ rfl rfl _ _ (heap_alloc_last _ _) H2.1 (by rw [H2.2.1]; rfl) H2.2.2 ?_; rw [World.setRow_alloc_new]) | (refine wpList_store_row rfl 29 _ _ rfl _ _ rfl rfl _ _ (heap_alloc_last _ _) (by kernel_rfl) rfl (by simp [Value.oneCell']) ?_; rw [World.setRow_alloc_new]))
              clear x0 x1 x2 x3 x4 x5 y0 y1 y2 y3 y4 y5
              have b5 : Hid (Ro ((w1.alloc (.cells c2 29)).alloc (.cells #[.string std, .int .i64 (-a), .bool true, .string dst, .int .i64 (-b), .int .i64 K1, .int .i64 D1, .int .i64 M1, .int .i64 W1, .int .i64 V1, .int .i64 T1, .int .i64 K2, .int .i64 D2, .int .i64 M2, .int .i64 W2, .int .i64 V2, .int .i64 T2] 29)) (w1.heap.size + 1) #[.string std, .int .i64 (-a), .bool true, .string dst, .int .i64 (-b), .int .i64 K1, .int .i64 D1, .int .i64 M1, .int .i64 W1, .int .i64 V1, .int .i64 T1, .int .i64 K2, .int .i64 D2, .int .i64 M2, .int .i64 W2, .int .i64 V2, .int .i64 T2] 29) := hide (by
                have := Ro.new (w1.alloc (.cells c2 29)) #[.string std, .int .i64 (-a), .bool true, .string dst, .int .i64 (-b), .int .i64 K1, .int .i64 D1, .int .i64 M1, .int .i64 W1, .int .i64 V1, .int .i64 T1, .int .i64 K2, .int .i64 D2, .int .i64 M2, .int .i64 W2, .int .i64 V2, .int .i64 T2] 29
                rwa [show (w1.alloc (.cells c2 29)).heap.size = w1.heap.size + 1 by simp] at this)
              replace b4 := hide (b4.out.alloc (.cells #[.string std, .int .i64 (-a), .bool true, .string dst, .int .i64 (-b), .int .i64 K1, .int .i64 D1, .int .i64 M1, .int .i64 W1, .int .i64 V1, .int .i64 T1, .int .i64 K2, .int .i64 D2, .int .i64 M2, .int .i64 W2, .int .i64 V2, .int .i64 T2] 29))
              replace hb := hide (bl_alloc hb.out (.cells #[.string std, .int .i64 (-a), .bool true, .string dst, .int .i64 (-b), .int .i64 K1, .int .i64 D1, .int .i64 M1, .int .i64 W1, .int .i64 V1, .int .i64 T1, .int .i64 K2, .int .i64 D2, .int .i64 M2, .int .i64 W2, .int .i64 V2, .int .i64 T2] 29))
              go_wp2_with (first | (refine load_row_g (by rfl) 29 _ rfl _ rfl _ _ _ b4.out Tryz.underlying29 rfl H2.1 ?_) | (refine load_row_g (by rfl) 29 _ rfl _ rfl _ _ _ b5.out Tryz.underlying29 rfl (by kernel_rfl) ?_))
              go_ret
              exact ⟨rfl, hb.out⟩
            · have R1 : Hid (∀ w, Calls Tryz.prog 8 #[.agg #[.int .i64 K1, .int .i64 D1, .int .i64 M1, .int .i64 W1, .int .i64 V1, .int .i64 T1]] w fun e w' => e = .returned (.bool true) ∧ Below w.heap.size w w') := hide (fun w => by
                have := r6_.Valid K1 D1 M1 W1 V1 T1 w
                rwa [decide_eq_true r1] at this)
              have R2 : Hid (∀ w, Calls Tryz.prog 8 #[.agg #[.int .i64 K2, .int .i64 D2, .int .i64 M2, .int .i64 W2, .int .i64 V2, .int .i64 T2]] w fun e w' => e = .returned (.bool false) ∧ Below w.heap.size w w') := hide (fun w => by
                have := r6_.Valid K2 D2 M2 W2 V2 T2 w
                rwa [decide_eq_false r2] at this)
              go_enter Tryz.func3, Tryz.ntmps3
              go_wp2_with fail
              refine (awake _).mono ?_
              rintro e w1 ⟨rfl, h1⟩
              replace b1 := hide (b1.out.below h1)
              replace b2 := hide (b2.out.below h1)
              replace hb := hide (bel_next hb.out h1)
              clear h1
              go_wp2_with fail
              refine (N1.out _).mono ?_
              rintro e w2 ⟨rfl, rfl⟩
              go_wp2_with fail
              refine (N2.out _).mono ?_
              rintro e w2 ⟨rfl, rfl⟩
              obtain ⟨x0, x1, x2, x3, x4, x5⟩ := cells6' b1.out
              obtain ⟨y0, y1, y2, y3, y4, y5⟩ := cells6' b2.out
              go_wp2_with fail
              refine (R1.out _).mono ?_
              rintro e w1 ⟨rfl, h1⟩
              replace b1 := hide (b1.out.below h1)
              replace b2 := hide (b2.out.below h1)
              replace hb := hide (bel_next hb.out h1)
              clear h1
              clear x0 x1 x2 x3 x4 x5 y0 y1 y2 y3 y4 y5
              obtain ⟨x0, x1, x2, x3, x4, x5⟩ := cells6' b1.out
              obtain ⟨y0, y1, y2, y3, y4, y5⟩ := cells6' b2.out
              go_wp2_with fail
              refine (R2.out _).mono ?_
              rintro e w1 ⟨rfl, h1⟩
              replace b1 := hide (b1.out.below h1)
              replace b2 := hide (b2.out.below h1)
              replace hb := hide (bel_next hb.out h1)
              clear h1
              clear x0 x1 x2 x3 x4 x5 y0 y1 y2 y3 y4 y5
              go_wp2_with fail
              refine (awake _).mono ?_
              rintro e w1 ⟨rfl, h1⟩
              replace hb := hide (bel_next hb.out h1)
              clear h1
              go_wp2
              go_ret
              exact ⟨rfl, hb.out⟩
          · have R1 : Hid (∀ w, Calls Tryz.prog 8 #[.agg #[.int .i64 K1, .int .i64 D1, .int .i64 M1, .int .i64 W1, .int .i64 V1, .int .i64 T1]] w fun e w' => e = .returned (.bool false) ∧ Below w.heap.size w w') := hide (fun w => by
              have := r6_.Valid K1 D1 M1 W1 V1 T1 w
              rwa [decide_eq_false r1] at this)
            go_enter Tryz.func3, Tryz.ntmps3
            go_wp2_with fail
            refine (awake _).mono ?_
            rintro e w1 ⟨rfl, h1⟩
            replace b1 := hide (b1.out.below h1)
            replace b2 := hide (b2.out.below h1)
            replace hb := hide (bel_next hb.out h1)
            clear h1
            go_wp2_with fail
            refine (N1.out _).mono ?_
            rintro e w2 ⟨rfl, rfl⟩
            go_wp2_with fail
            refine (N2.out _).mono ?_
            rintro e w2 ⟨rfl, rfl⟩
            obtain ⟨x0, x1, x2, x3, x4, x5⟩ := cells6' b1.out
            obtain ⟨y0, y1, y2, y3, y4, y5⟩ := cells6' b2.out
            go_wp2_with fail
            refine (R1.out _).mono ?_
            rintro e w1 ⟨rfl, h1⟩
            replace b1 := hide (b1.out.below h1)
            replace b2 := hide (b2.out.below h1)
            replace hb := hide (bel_next hb.out h1)
            clear h1
            clear x0 x1 x2 x3 x4 x5 y0 y1 y2 y3 y4 y5
            go_wp2_with fail
            refine (awake _).mono ?_
            rintro e w1 ⟨rfl, h1⟩
            replace hb := hide (bel_next hb.out h1)
            clear h1
            go_wp2
            go_ret
            exact ⟨rfl, hb.out⟩
        · obtain ⟨a2, a3⟩ := id ha
          rcases (show b < -89999 ∨ (-89999 ≤ b ∧ 89999 < b) by unfold offOk at hbo; omega) with h | ⟨h, h'⟩
          all_goals clear ha hbo
          · go_enter Tryz.func3, Tryz.ntmps3
            go_wp2_with fail
            refine (awake _).mono ?_
            rintro e w1 ⟨rfl, h1⟩
            replace b1 := hide (b1.out.below h1)
            replace b2 := hide (b2.out.below h1)
            replace hb := hide (bel_next hb.out h1)
            clear h1
            go_wp2_with fail
            refine (N1.out _).mono ?_
            rintro e w2 ⟨rfl, rfl⟩
            go_wp2_with fail
            refine (N2.out _).mono ?_
            rintro e w2 ⟨rfl, rfl⟩
            go_wp2_with fail
            refine (awake _).mono ?_
            rintro e w1 ⟨rfl, h1⟩
            replace hb := hide (bel_next hb.out h1)
            clear h1
            go_wp2
            go_ret
            exact ⟨rfl, hb.out⟩
          · go_enter Tryz.func3, Tryz.ntmps3
            go_wp2_with fail
            refine (awake _).mono ?_
            rintro e w1 ⟨rfl, h1⟩
            replace b1 := hide (b1.out.below h1)
            replace b2 := hide (b2.out.below h1)
            replace hb := hide (bel_next hb.out h1)
            clear h1
            go_wp2_with fail
            refine (N1.out _).mono ?_
            rintro e w2 ⟨rfl, rfl⟩
            go_wp2_with fail
            refine (N2.out _).mono ?_
            rintro e w2 ⟨rfl, rfl⟩
            go_wp2_with fail
            refine (awake _).mono ?_
            rintro e w1 ⟨rfl, h1⟩
            replace hb := hide (bel_next hb.out h1)
            clear h1
            go_wp2
            go_ret
            exact ⟨rfl, hb.out⟩
      · rcases (show a < -89999 ∨ (-89999 ≤ a ∧ 89999 < a) by unfold offOk at ha; omega) with h | ⟨h, h'⟩
        all_goals clear ha
        · go_enter Tryz.func3, Tryz.ntmps3
          go_wp2_with fail
          refine (awake _).mono ?_
          rintro e w1 ⟨rfl, h1⟩
          replace b1 := hide (b1.out.below h1)
          replace b2 := hide (b2.out.below h1)
          replace hb := hide (bel_next hb.out h1)
          clear h1
          go_wp2_with fail
          refine (N1.out _).mono ?_
          rintro e w2 ⟨rfl, rfl⟩
          go_wp2_with fail
          refine (N2.out _).mono ?_
          rintro e w2 ⟨rfl, rfl⟩
          go_wp2_with fail
          refine (awake _).mono ?_
          rintro e w1 ⟨rfl, h1⟩
          replace hb := hide (bel_next hb.out h1)
          clear h1
          go_wp2
          go_ret
          exact ⟨rfl, hb.out⟩
        · go_enter Tryz.func3, Tryz.ntmps3
          go_wp2_with fail
          refine (awake _).mono ?_
          rintro e w1 ⟨rfl, h1⟩
          replace b1 := hide (b1.out.below h1)
          replace b2 := hide (b2.out.below h1)
          replace hb := hide (bel_next hb.out h1)
          clear h1
          go_wp2_with fail
          refine (N1.out _).mono ?_
          rintro e w2 ⟨rfl, rfl⟩
          go_wp2_with fail
          refine (N2.out _).mono ?_
          rintro e w2 ⟨rfl, rfl⟩
          go_wp2_with fail
          refine (awake _).mono ?_
          rintro e w1 ⟨rfl, h1⟩
          replace hb := hide (bel_next hb.out h1)
          clear h1
          go_wp2
          go_ret
          exact ⟨rfl, hb.out⟩
    · have N1 : Hid (∀ w, Calls Tryz.prog 7 #[.string std] w fun e w' => e = .returned (.bool true) ∧ w = w') := hide (fun w => by
        have := r7_.Valid std w hs
        rwa [n1] at this)
      have N2 : Hid (∀ w, Calls Tryz.prog 7 #[.string dst] w fun e w' => e = .returned (.bool false) ∧ w = w') := hide (fun w => by
        have := r7_.Valid dst w ht
        rwa [(Bool.not_eq_true _).mp n2] at this)
      go_enter Tryz.func3, Tryz.ntmps3
      go_wp2_with fail
      refine (awake _).mono ?_
      rintro e w1 ⟨rfl, h1⟩
      replace b1 := hide (b1.out.below h1)
      replace b2 := hide (b2.out.below h1)
      replace hb := hide (bel_next hb.out h1)
      clear h1
      go_wp2_with fail
      refine (N1.out _).mono ?_
      rintro e w2 ⟨rfl, rfl⟩
      go_wp2_with fail
      refine (N2.out _).mono ?_
      rintro e w2 ⟨rfl, rfl⟩
      go_wp2_with fail
      refine (awake _).mono ?_
      rintro e w1 ⟨rfl, h1⟩
      replace hb := hide (bel_next hb.out h1)
      clear h1
      go_wp2
      go_ret
      exact ⟨rfl, hb.out⟩
  · have N1 : Hid (∀ w, Calls Tryz.prog 7 #[.string std] w fun e w' => e = .returned (.bool false) ∧ w = w') := hide (fun w => by
      have := r7_.Valid std w hs
      rwa [(Bool.not_eq_true _).mp n1] at this)
    go_enter Tryz.func3, Tryz.ntmps3
    go_wp2_with fail
    refine (awake _).mono ?_
    rintro e w1 ⟨rfl, h1⟩
    replace b1 := hide (b1.out.below h1)
    replace b2 := hide (b2.out.below h1)
    replace hb := hide (bel_next hb.out h1)
    clear h1
    go_wp2_with fail
    refine (N1.out _).mono ?_
    rintro e w2 ⟨rfl, rfl⟩
    go_wp2_with fail
    refine (awake _).mono ?_
    rintro e w1 ⟨rfl, h1⟩
    replace hb := hide (bel_next hb.out h1)
    clear h1
    go_wp2
    go_ret
    exact ⟨rfl, hb.out⟩
end l9_
end Go.Proofs.YtjjmkbofddbnnaaGreatDoor
