/-
  THE WALKS OF THE LAWS OF LAYER 7 (zoneinfolaw07): TznameMatchesReference. No conditions.
-/
import Derived.Test.YtbalpekoandakaaLaw7
namespace Go.Proofs.Ytbalpekoandakaa
open Go.ChangeShapes Go.WideShapes Go.ChangeAt Go.RowKit
set_option linter.unusedVariables false
namespace l7_
set_option maxRecDepth 100000 in
set_option maxHeartbeats 4000000 in
theorem mref (s : ByteArray) (c : Int) (w : World) (hs : s.size ≤ maxLen) (hc : (Lit.int .u8 c).wf = true) :
    Calls Try.prog 3 #[.string s, .int .u8 c] w fun e w' => e = .returned (.bool true) ∧ Below w.heap.size w w' := by
  obtain ⟨c0, c1⟩ := wf_u8 hc
  clear hc
  have hb := hide (Below.refl w.heap.size w)
  by_cases hl : s.size ≤ 1000
  · have hs1 : s.size ≤ 1000000 := by omega
    have P := hide (fun w => tn_.Parse s w hs1)
    have Q := hide (fun w => r7_.Parse s w hs1)
    have V := hide (fun w => tn_.Valid s w hs1)
    have U := hide (fun w => r7_.Valid s w hs)
    have F := hide (fun w => tn_.Format s w hs1)
    have G := hide (fun w => r7_.Format s w hs1)
    have A := hide (fun w => tn_.IsAlpha c w c0 c1)
    have D := hide (fun w => r7_.IsAlpha c w c0 c1)
    generalize tnParse (byt s) = r at *
    generalize nameOk (byt s) = v at *
    generalize mkS (tnFmt (byt s)) = f at *
    generalize alphaI c = a at *
    clear hs hs1
    rcases r with _ | ⟨q, n⟩
    all_goals
      unfold tnRes at P Q
      cases a
      all_goals
        cases v
        all_goals
          go_enter Try.func3, Try.ntmps3
          go_wp2_with fail
          refine (awake _).mono ?_
          rintro e w1 ⟨rfl, h1⟩
          replace hb := hide (bel_next hb.out h1)
          clear h1
          go_wp2_with fail
          refine (P.out _).mono ?_
          rintro e w1 ⟨rfl, h1⟩
          replace hb := hide (bel_next hb.out h1)
          clear h1
          go_wp2_with fail
          refine (Q.out _).mono ?_
          rintro e w2 ⟨rfl, rfl⟩
          go_wp2_with fail
          refine (V.out _).mono ?_
          rintro e w1 ⟨rfl, h1⟩
          replace hb := hide (bel_next hb.out h1)
          clear h1
          go_wp2_with fail
          refine (U.out _).mono ?_
          rintro e w2 ⟨rfl, rfl⟩
          go_wp2_with fail
          refine (A.out _).mono ?_
          rintro e w1 ⟨rfl, h1⟩
          replace hb := hide (bel_next hb.out h1)
          clear h1
          go_wp2_with fail
          refine (D.out _).mono ?_
          rintro e w2 ⟨rfl, rfl⟩
          go_wp2_with fail
          refine (U.out _).mono ?_
          rintro e w2 ⟨rfl, rfl⟩
          try (
            go_wp2_with fail
            refine (F.out _).mono ?_
            rintro e w1 ⟨rfl, h1⟩
            replace hb := hide (bel_next hb.out h1)
            clear h1
            go_wp2_with fail
            refine (G.out _).mono ?_
            rintro e w2 ⟨rfl, rfl⟩)
          go_wp2
          go_ret
          exact ⟨rfl, hb.out⟩
  · have hl' : (1000 : Int) < s.size := by omega
    go_enter Try.func3, Try.ntmps3
    go_wp2_with fail
    refine (awake _).mono ?_
    rintro e w1 ⟨rfl, h1⟩
    replace hb := hide (bel_next hb.out h1)
    clear h1
    go_wp2_with fail
    refine (awake _).mono ?_
    rintro e w1 ⟨rfl, h1⟩
    replace hb := hide (bel_next hb.out h1)
    clear h1
    go_wp2
    go_ret
    exact ⟨rfl, hb.out⟩
end l7_
end Go.Proofs.Ytbalpekoandakaa
