/-
  THE WALKS OF THE LAWS OF LAYER 4 (zoneinfolaw04): CivilRoundTrip. No conditions beyond the table's.
-/
import Derived.Test.YtinfbppbnjjdhaaDoorLaw4
namespace Go.Proofs.YtinfbppbnjjdhaaDoor
open Go.ChangeShapes Go.WideShapes Go.ChangeAt Go.RowKit
set_option linter.unusedVariables false
namespace l4_
set_option maxRecDepth 100000 in
set_option maxHeartbeats 4000000 in
theorem roundTrip (a0 a1 a2 a3 : Int) (w : World) (hT : Tb w) (w0 : (Lit.int .i64 a0).wf = true) (w1 : (Lit.int .i64 a1).wf = true) (w2 : (Lit.int .i64 a2).wf = true) (w3 : (Lit.int .i64 a3).wf = true) :
    Calls Tryd.prog 4 #[.int .i64 a0, .int .i64 a1, .int .i64 a2, .int .i64 a3] w fun e w' => e = .returned (.bool true) ∧ Below w.heap.size w w' := by
  obtain ⟨p0, q0⟩ := wf_i64 w0
  obtain ⟨p1, q1⟩ := wf_i64 w1
  obtain ⟨p2, q2⟩ := wf_i64 w2
  obtain ⟨p3, q3⟩ := wf_i64 w3
  have hb := hide (Below.refl w.heap.size w)
  have HT := hide hT
  clear hT w0 w1 w2 w3
  obtain ⟨Y, M, D, hd⟩ := IsDate.ex a3
  have hd := hide hd
  by_cases hin : loDay ≤ a3 ∧ a3 ≤ hiDay
  · obtain ⟨hin1, hin2⟩ := hin
    by_cases hv : Vd a0 a1 a2
    · have hv := hide hv
      go_enter Tryd.func4, Tryd.ntmps4
      go_wp2_with fail
      refine (awake _ HT.out).mono ?_
      rintro e w1 ⟨rfl, h1⟩
      replace HT := hide (HT.out.below h1)
      replace hb := hide (bel_next hb.out h1)
      clear h1
      go_wp2_with fail
      refine (r4_.InRange_is true (by simp [hin1, hin2])).mono ?_
      rintro e w2 ⟨rfl, rfl⟩
      go_wp2_with fail
      refine (cv_.Date _ Y M D _ HT.out hin1 hin2 hd.out).mono ?_
      rintro e w1 ⟨rfl, h1⟩
      replace HT := hide (HT.out.below h1)
      replace hb := hide (bel_next hb.out h1)
      clear h1
      go_wp2_with fail
      refine (r4_.Valid_yes _ _ _ _ (hd.out.dom hin1 hin2)).mono ?_
      rintro e w2 ⟨rfl, rfl⟩
      go_wp2_with fail
      refine (cv_.Days_is a3 HT.out (hd.out.dom hin1 hin2) hd.out.2).mono ?_
      rintro e w1 ⟨rfl, h1⟩
      replace HT := hide (HT.out.below h1)
      replace hb := hide (bel_next hb.out h1)
      clear h1
      go_wp2_with fail
      refine (r4_.Valid_yes _ _ _ _ hv.out).mono ?_
      rintro e w2 ⟨rfl, rfl⟩
      go_wp2_with fail
      refine (cv_.Days _ _ _ _ HT.out hv.out).mono ?_
      rintro e w1 ⟨rfl, h1⟩
      replace HT := hide (HT.out.below h1)
      replace hb := hide (bel_next hb.out h1)
      clear h1
      go_wp2_with fail
      refine (cv_.Date _ a0 a1 a2 _ HT.out hv.out.day.1 hv.out.day.2 (IsDate.of hv.out.2.2)).mono ?_
      rintro e w1 ⟨rfl, h1⟩
      replace HT := hide (HT.out.below h1)
      replace hb := hide (bel_next hb.out h1)
      clear h1
      go_wp2
      go_ret
      exact ⟨rfl, hb.out⟩
    · have hv := hide hv
      go_enter Tryd.func4, Tryd.ntmps4
      go_wp2_with fail
      refine (awake _ HT.out).mono ?_
      rintro e w1 ⟨rfl, h1⟩
      replace HT := hide (HT.out.below h1)
      replace hb := hide (bel_next hb.out h1)
      clear h1
      go_wp2_with fail
      refine (r4_.InRange_is true (by simp [hin1, hin2])).mono ?_
      rintro e w2 ⟨rfl, rfl⟩
      go_wp2_with fail
      refine (cv_.Date _ Y M D _ HT.out hin1 hin2 hd.out).mono ?_
      rintro e w1 ⟨rfl, h1⟩
      replace HT := hide (HT.out.below h1)
      replace hb := hide (bel_next hb.out h1)
      clear h1
      go_wp2_with fail
      refine (r4_.Valid_yes _ _ _ _ (hd.out.dom hin1 hin2)).mono ?_
      rintro e w2 ⟨rfl, rfl⟩
      go_wp2_with fail
      refine (cv_.Days_is a3 HT.out (hd.out.dom hin1 hin2) hd.out.2).mono ?_
      rintro e w1 ⟨rfl, h1⟩
      replace HT := hide (HT.out.below h1)
      replace hb := hide (bel_next hb.out h1)
      clear h1
      go_wp2_with fail
      refine (r4_.Valid_no _ _ _ _ hv.out).mono ?_
      rintro e w2 ⟨rfl, rfl⟩
      go_wp2
      go_ret
      exact ⟨rfl, hb.out⟩
  · by_cases hv : Vd a0 a1 a2
    · have hv := hide hv
      have hin := hide hin
      go_enter Tryd.func4, Tryd.ntmps4
      go_wp2_with fail
      refine (awake _ HT.out).mono ?_
      rintro e w1 ⟨rfl, h1⟩
      replace HT := hide (HT.out.below h1)
      replace hb := hide (bel_next hb.out h1)
      clear h1
      go_wp2_with fail
      refine (r4_.InRange_is false (by have := hin.out; simp; omega)).mono ?_
      rintro e w2 ⟨rfl, rfl⟩
      go_wp2_with fail
      refine (r4_.Valid_yes _ _ _ _ hv.out).mono ?_
      rintro e w2 ⟨rfl, rfl⟩
      go_wp2_with fail
      refine (cv_.Days _ _ _ _ HT.out hv.out).mono ?_
      rintro e w1 ⟨rfl, h1⟩
      replace HT := hide (HT.out.below h1)
      replace hb := hide (bel_next hb.out h1)
      clear h1
      go_wp2_with fail
      refine (cv_.Date _ a0 a1 a2 _ HT.out hv.out.day.1 hv.out.day.2 (IsDate.of hv.out.2.2)).mono ?_
      rintro e w1 ⟨rfl, h1⟩
      replace HT := hide (HT.out.below h1)
      replace hb := hide (bel_next hb.out h1)
      clear h1
      go_wp2
      go_ret
      exact ⟨rfl, hb.out⟩
    · have hv := hide hv
      have hin := hide hin
      go_enter Tryd.func4, Tryd.ntmps4
      go_wp2_with fail
      refine (awake _ HT.out).mono ?_
      rintro e w1 ⟨rfl, h1⟩
      replace HT := hide (HT.out.below h1)
      replace hb := hide (bel_next hb.out h1)
      clear h1
      go_wp2_with fail
      refine (r4_.InRange_is false (by have := hin.out; simp; omega)).mono ?_
      rintro e w2 ⟨rfl, rfl⟩
      go_wp2_with fail
      refine (r4_.Valid_no _ _ _ _ hv.out).mono ?_
      rintro e w2 ⟨rfl, rfl⟩
      go_wp2
      go_ret
      exact ⟨rfl, hb.out⟩
end l4_
end Go.Proofs.YtinfbppbnjjdhaaDoor
