/-
  THE WALKS OF THE LAWS OF LAYER 9 (zoneinfolaw09): PosixtzAcceptsExactly. No conditions.
-/
import Derived.Test.YtjjmkbofddbnnaaDoorLaw9
namespace Go.Proofs.YtjjmkbofddbnnaaDoor
open Go.ChangeShapes Go.WideShapes Go.ChangeAt Go.RowKit
set_option linter.unusedVariables false
namespace l9_
set_option maxRecDepth 100000 in
set_option maxHeartbeats 4000000 in
theorem accepts (s : ByteArray) (w : World) (hs : s.size ≤ maxLen) : Calls Tryd.prog 3 #[.string s] w fun e w' => e = .returned (.bool true) ∧ Below w.heap.size w w' := by
  have hb := hide (Below.refl w.heap.size w)
  by_cases hl : s.size ≤ 1000
  · have P := hide (fun w => po_.Parse s w (by omega))
    rcases hr : ptParse (byt s) with a | r
    · have ha : a ≤ s.size := by rw [← len_byt]; exact ptParse_err hr
      rw [hr] at P
      simp only [ptRes, vrule_c] at P
      obtain ⟨cs, hcs⟩ : ∃ cs, cs = crule ⟨#[]⟩ 0 false ⟨#[]⟩ 0 rd0 rd0 := ⟨_, rfl⟩
      have G := gr_rule ⟨#[]⟩ 0 false ⟨#[]⟩ 0 rd0 rd0
      have q : ∀ w : World, (binOp .eql 26 (.agg cs) (.agg #[.string ⟨#[]⟩, .int .i64 0, .bool false, .string ⟨#[]⟩, .int .i64 0, .int .i64 0, .int .i64 0, .int .i64 0, .int .i64 0, .int .i64 0, .int .i64 0, .int .i64 0, .int .i64 0, .int .i64 0, .int .i64 0, .int .i64 0, .int .i64 0])).run Tryd.prog w = .ok (.bool true) w := fun _ => by rw [hcs]; kernel_rfl
      rw [← hcs] at P G
      clear hcs hr hs
      replace G := hide G
      go_enter Tryd.func3, Tryd.ntmps3
      go_wp2_with fail
      refine (awake _).mono ?_
      rintro e w1 ⟨rfl, h1⟩
      replace hb := hide (bel_next hb.out h1)
      clear h1
      go_wp2_with fail
      refine (P.out _).mono ?_
      rintro e w1 ⟨rfl, h1⟩
      replace hb := hide (bel_next hb.out h1)
      clear h1
      have b1 := hide (Ro.new w1 cs 26)
      replace hb := hide (bl_alloc hb.out (.cells cs 26))
      have G1 := G.out
      go_wp2_with (first | (refine wpList_store_row rfl 26 _ _ rfl _ _ rfl rfl _ _ (heap_alloc_last _ _) G1.1 (by rw [G1.2.1]; rfl) G1.2.2 ?_; rw [World.setRow_alloc_new]) | (refine load_row_g (by rfl) 26 _ rfl _ rfl _ _ _ b1.out Tryd.underlying26 rfl G1.1 ?_))
      go_ret
      exact ⟨rfl, hb.out⟩
    · have P2 := hide (fun w => po_.Parse (s ++ ⟨#[32]⟩) w (by rw [ByteArray.size_append]; have : (⟨#[32]⟩ : ByteArray).size = 1 := rfl; omega))
      have e2 : ptParse (byt (s ++ ⟨#[32]⟩)) = .error s.size := by
        rw [byt_append, show byt ⟨#[32]⟩ = [32] from rfl, ptParse_sp hr, len_byt]
      rw [hr] at P
      rw [e2] at P2
      have V := hide (fun w => po_.Valid (mkS r.1) r.2.1 r.2.2.1 (mkS r.2.2.2.1) r.2.2.2.2.1 r.2.2.2.2.2.1 r.2.2.2.2.2.2 w (po_.pr_wf (ptParse_ok hr)).1 (po_.pr_wf (ptParse_ok hr)).2.1 (po_.pr_wf (ptParse_ok hr)).2.2.1 (po_.pr_wf (ptParse_ok hr)).2.2.2.1 (po_.pr_wf (ptParse_ok hr)).2.2.2.2.1 (po_.pr_wf (ptParse_ok hr)).2.2.2.2.2)
      rw [byt_mk, byt_mk, decide_eq_true (ptParse_ok hr)] at V
      simp only [ptRes, vrule_c] at P P2 V
      have G := gr_rule (mkS r.1) r.2.1 r.2.2.1 (mkS r.2.2.2.1) r.2.2.2.2.1 r.2.2.2.2.2.1 r.2.2.2.2.2.2
      have G0 := gr_rule ⟨#[]⟩ 0 false ⟨#[]⟩ 0 rd0 rd0
      generalize crule (mkS r.1) r.2.1 r.2.2.1 (mkS r.2.2.2.1) r.2.2.2.2.1 r.2.2.2.2.2.1 r.2.2.2.2.2.2 = cs at *
      generalize crule ⟨#[]⟩ 0 false ⟨#[]⟩ 0 rd0 rd0 = c0 at *
      clear hr e2
      replace G := hide G
      replace G0 := hide G0
      go_enter Tryd.func3, Tryd.ntmps3
      go_wp2_with fail
      refine (awake _).mono ?_
      rintro e w1 ⟨rfl, h1⟩
      replace hb := hide (bel_next hb.out h1)
      clear h1
      go_wp2_with fail
      refine (P.out _).mono ?_
      rintro e w1 ⟨rfl, h1⟩
      replace hb := hide (bel_next hb.out h1)
      clear h1
      have b1 := hide (Ro.new w1 cs 26)
      replace hb := hide (bl_alloc hb.out (.cells cs 26))
      have G1 := G.out
      have G2 := G0.out
      go_wp2_with (first | (refine wpList_store_row rfl 26 _ _ rfl _ _ rfl rfl _ _ (heap_alloc_last _ _) G1.1 (by rw [G1.2.1]; rfl) G1.2.2 ?_; rw [World.setRow_alloc_new]))
      refine (P2.out _).mono ?_
      rintro e w1 ⟨rfl, h1⟩
      replace b1 := hide (b1.out.below h1)
      replace hb := hide (bel_next hb.out h1)
      clear h1
      have b2 := hide (Ro.new w1 c0 26)
      replace b1 := hide (b1.out.alloc (.cells c0 26))
      replace hb := hide (bl_alloc hb.out (.cells c0 26))
      go_wp2_with (first | (refine wpList_store_row rfl 26 _ _ rfl _ _ rfl rfl _ _ (heap_alloc_last _ _) G2.1 (by rw [G2.2.1]; rfl) G2.2.2 ?_; rw [World.setRow_alloc_new]) | (refine load_row_g (by rfl) 26 _ rfl _ rfl _ _ _ b1.out Tryd.underlying26 rfl G1.1 ?_))
      refine (V.out _).mono ?_
      rintro e w1 ⟨rfl, h1⟩
      replace hb := hide (bel_next hb.out h1)
      clear h1
      go_wp2
      go_ret
      exact ⟨rfl, hb.out⟩
  · go_enter Tryd.func3, Tryd.ntmps3
    go_wp2_with fail
    refine (awake _).mono ?_
    rintro e w1 ⟨rfl, h1⟩
    replace hb := hide (bel_next hb.out h1)
    clear h1
    go_wp2_with fail
    refine (awake _).mono ?_
    rintro e w1 ⟨rfl, h1⟩
    replace hb := hide (bel_next hb.out h1)
    clear h1
    go_wp2
    go_ret
    exact ⟨rfl, hb.out⟩
end l9_
end Go.Proofs.YtjjmkbofddbnnaaDoor
