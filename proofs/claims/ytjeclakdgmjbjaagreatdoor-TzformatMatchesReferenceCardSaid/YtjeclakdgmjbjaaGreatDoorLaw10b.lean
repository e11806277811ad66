/-
  THE WALKS OF THE LAWS OF LAYER 10 (zoneinfolaw10): TzformatCanonical. No conditions.
-/
import Derived.Test.YtjeclakdgmjbjaaGreatDoorLaw10
namespace Go.Proofs.YtjeclakdgmjbjaaGreatDoor
open Go.ChangeShapes Go.WideShapes Go.ChangeAt Go.RowKit
set_option linter.unusedVariables false
/-- a rule equals itself. -/
theorem rule_eq (r : PR) (w : World) : (binOp .eql 25 (.agg (crule (mkS r.1) r.2.1 r.2.2.1 (mkS r.2.2.2.1) r.2.2.2.2.1 r.2.2.2.2.2.1 r.2.2.2.2.2.2)) (.agg (crule (mkS r.1) r.2.1 r.2.2.1 (mkS r.2.2.2.1) r.2.2.2.2.1 r.2.2.2.2.2.1 r.2.2.2.2.2.2))).run Tryz.prog w = .ok (.bool true) w := by
  simp [go_sem, crule]
namespace l10_
set_option maxRecDepth 100000 in
set_option maxHeartbeats 8000000 in
theorem canonical (s : ByteArray) (w : World) (hT : Tp w) (hs : s.size ≤ maxLen) : Calls Tryz.prog 5 #[.string s] w fun e w' => e = .returned (.bool true) ∧ Below w.heap.size w w' := by
  have HT := hide hT
  clear hT
  have hb := hide (Below.refl w.heap.size w)
  by_cases hl : s.size ≤ 1000
  · have P := hide (fun w => po_.Parse s w (by omega))
    have C := hide (fun w hT => tf_.Canonical s w hT (by omega))
    rcases hr : ptParse (byt s) with a | r
    · rw [hr] at P C
      simp only [ptRes, vrule_c, canR] at P C
      have G := gr_rule ⟨#[]⟩ 0 false ⟨#[]⟩ 0 rd0 rd0
      generalize crule ⟨#[]⟩ 0 false ⟨#[]⟩ 0 rd0 rd0 = cs at *
      clear hr hs
      replace G := hide G
      go_enter Tryz.func5, Tryz.ntmps5
      go_wp2_with fail
      refine (awake _ (by first | exact HT.out.below hb.out | exact HT.out.below (Hid.out (by assumption)))).mono ?_
      rintro e w1 ⟨rfl, h1⟩
      replace hb := hide (bel_next hb.out h1)
      clear h1
      go_wp2_with fail
      refine (C.out _ (by first | exact HT.out.below hb.out | exact HT.out.below (Hid.out (by assumption)))).mono ?_
      rintro e w1 ⟨rfl, h1⟩
      replace hb := hide (bel_next hb.out h1)
      clear h1
      go_wp2_with fail
      refine (P.out _).mono ?_
      rintro e w1 ⟨rfl, h1⟩
      replace hb := hide (bel_next hb.out h1)
      clear h1
      have G1 := G.out
      replace hb := hide (bl_alloc hb.out (.cells cs 25))
      go_wp2_with (first | (refine wpList_store_row rfl 25 _ _ rfl _ _ rfl rfl _ _ (heap_alloc_last _ _) G1.1 (by rw [G1.2.1]; rfl) G1.2.2 ?_; rw [World.setRow_alloc_new]))
      go_ret
      exact ⟨rfl, hb.out⟩
    · have hsh := rule_short hr
      rw [len_byt] at hsh
      have hpr := ptParse_ok hr
      have hback := rule_back hpr
      obtain ⟨S, hS, zS, bS⟩ : ∃ S : ByteArray, mkS (ruleF r) = S ∧ S.size ≤ s.size ∧ byt S = ruleF r := ⟨_, rfl, by rw [size_mk]; exact hsh, byt_mk _⟩
      have P2 := hide (fun w => po_.Parse S w (by omega))
      have C2 := hide (fun w hT => tf_.Canonical S w hT (by omega))
      rw [bS, hback] at P2 C2
      rw [hr] at P C
      simp only [ptRes, vrule_c, canR] at P C P2 C2
      rw [hS] at C C2
      have q := rule_eq r
      have G := gr_rule (mkS r.1) r.2.1 r.2.2.1 (mkS r.2.2.2.1) r.2.2.2.2.1 r.2.2.2.2.2.1 r.2.2.2.2.2.2
      generalize crule (mkS r.1) r.2.1 r.2.2.1 (mkS r.2.2.2.1) r.2.2.2.2.1 r.2.2.2.2.2.1 r.2.2.2.2.2.2 = cs at *
      have eS := seq_eq (rfl : S = S)
      clear hr hs hS bS hback hpr hsh
      replace G := hide G
      go_enter Tryz.func5, Tryz.ntmps5
      go_wp2_with fail
      refine (awake _ (by first | exact HT.out.below hb.out | exact HT.out.below (Hid.out (by assumption)))).mono ?_
      rintro e w1 ⟨rfl, h1⟩
      replace hb := hide (bel_next hb.out h1)
      clear h1
      go_wp2_with fail
      refine (C.out _ (by first | exact HT.out.below hb.out | exact HT.out.below (Hid.out (by assumption)))).mono ?_
      rintro e w1 ⟨rfl, h1⟩
      replace hb := hide (bel_next hb.out h1)
      clear h1
      go_wp2_with fail
      refine (P.out _).mono ?_
      rintro e w1 ⟨rfl, h1⟩
      replace hb := hide (bel_next hb.out h1)
      clear h1
      have b1 := hide (Ro.new w1 cs 25)
      replace hb := hide (bl_alloc hb.out (.cells cs 25))
      have G1 := G.out
      go_wp2_with (first | (refine wpList_store_row rfl 25 _ _ rfl _ _ rfl rfl _ _ (heap_alloc_last _ _) G1.1 (by rw [G1.2.1]; rfl) G1.2.2 ?_; rw [World.setRow_alloc_new]))
      refine (P2.out _).mono ?_
      rintro e w1 ⟨rfl, h1⟩
      replace b1 := hide (b1.out.below h1)
      replace hb := hide (bel_next hb.out h1)
      clear h1
      have b2 := hide (Ro.new w1 cs 25)
      replace b1 := hide (b1.out.alloc (.cells cs 25))
      replace hb := hide (bl_alloc hb.out (.cells cs 25))
      go_wp2_with (first | (refine wpList_store_row rfl 25 _ _ rfl _ _ rfl rfl _ _ (heap_alloc_last _ _) G1.1 (by rw [G1.2.1]; rfl) G1.2.2 ?_; rw [World.setRow_alloc_new]))
      refine (C2.out _ (by first | exact HT.out.below hb.out | exact HT.out.below (Hid.out (by assumption)))).mono ?_
      rintro e w1 ⟨rfl, h1⟩
      replace b1 := hide (b1.out.below h1)
      replace b2 := hide (b2.out.below h1)
      replace hb := hide (bel_next hb.out h1)
      clear h1
      go_wp2_with (first | (refine load_row_g (by rfl) 25 _ rfl _ rfl _ _ _ b1.out Tryz.underlying25 rfl G1.1 ?_) | (refine load_row_g (by rfl) 25 _ rfl _ rfl _ _ _ b2.out Tryz.underlying25 rfl G1.1 ?_))
      go_ret
      exact ⟨rfl, hb.out⟩
  · go_enter Tryz.func5, Tryz.ntmps5
    go_wp2_with fail
    refine (awake _ (by first | exact HT.out.below hb.out | exact HT.out.below (Hid.out (by assumption)))).mono ?_
    rintro e w1 ⟨rfl, h1⟩
    replace hb := hide (bel_next hb.out h1)
    clear h1
    go_wp2_with fail
    refine (awake _ (by first | exact HT.out.below hb.out | exact HT.out.below (Hid.out (by assumption)))).mono ?_
    rintro e w1 ⟨rfl, h1⟩
    replace hb := hide (bel_next hb.out h1)
    clear h1
    go_wp2
    go_ret
    exact ⟨rfl, hb.out⟩
end l10_
end Go.Proofs.YtjeclakdgmjbjaaGreatDoor
