/-
  THE WALKS OF THE LAWS OF LAYER 7 (zoneinfolaw07): awake. No conditions.
-/
import Derived.Test.YtbalpekoandakaaTz
namespace Go.Proofs.Ytbalpekoandakaa
open Go.ChangeShapes Go.WideShapes Go.ChangeAt Go.RowKit
set_option linter.unusedVariables false
namespace l7_
set_option maxRecDepth 100000 in
set_option maxHeartbeats 4000000 in
theorem awake (w : World) : Calls Try.prog 7 #[] w fun e w' => e = .returned (.bool true) ∧ Below w.heap.size w w' := by
  have P0 := hide (fun w => tn_.Parse ⟨#[60, 43, 48, 51, 62, 45, 51]⟩ w (by decide))
  rw [show tnRes (tnParse (byt ⟨#[60, 43, 48, 51, 62, 45, 51]⟩)) = .tuple #[.string ⟨#[43, 48, 51]⟩, .int .i64 5, .bool true] by rfl] at P0
  have P1 := hide (fun w => tn_.Parse ⟨#[69, 83, 84, 53]⟩ w (by decide))
  rw [show tnRes (tnParse (byt ⟨#[69, 83, 84, 53]⟩)) = .tuple #[.string ⟨#[69, 83, 84]⟩, .int .i64 3, .bool true] by rfl] at P1
  have P2 := hide (fun w => tn_.Parse ⟨#[69, 83, 53]⟩ w (by decide))
  rw [show tnRes (tnParse (byt ⟨#[69, 83, 53]⟩)) = .tuple #[.string ⟨#[]⟩, .int .i64 0, .bool false] by rfl] at P2
  have P3 := hide (fun w => tn_.Parse ⟨#[60, 69, 83, 84]⟩ w (by decide))
  rw [show tnRes (tnParse (byt ⟨#[60, 69, 83, 84]⟩)) = .tuple #[.string ⟨#[]⟩, .int .i64 0, .bool false] by rfl] at P3
  have P4 := hide (fun w => tn_.Parse ⟨#[60, 69, 95, 84, 62]⟩ w (by decide))
  rw [show tnRes (tnParse (byt ⟨#[60, 69, 95, 84, 62]⟩)) = .tuple #[.string ⟨#[]⟩, .int .i64 0, .bool false] by rfl] at P4
  have F0 := hide (fun w => tn_.Format ⟨#[69, 83, 84]⟩ w (by decide))
  rw [show mkS (tnFmt (byt ⟨#[69, 83, 84]⟩)) = ⟨#[69, 83, 84]⟩ by rfl] at F0
  have F1 := hide (fun w => tn_.Format ⟨#[45, 48, 48]⟩ w (by decide))
  rw [show mkS (tnFmt (byt ⟨#[45, 48, 48]⟩)) = ⟨#[60, 45, 48, 48, 62]⟩ by rfl] at F1
  have V0 := hide (fun w => tn_.Valid ⟨#[65, 49, 43]⟩ w (by decide))
  rw [show nameOk (byt ⟨#[65, 49, 43]⟩) = true by rfl] at V0
  have V1 := hide (fun w => tn_.Valid ⟨#[65, 66]⟩ w (by decide))
  rw [show nameOk (byt ⟨#[65, 66]⟩) = false by rfl] at V1
  have A0 := hide (fun w => tn_.IsAlpha 122 w (by decide) (by decide))
  rw [show alphaI 122 = true by rfl] at A0
  have A1 := hide (fun w => tn_.IsAlpha 48 w (by decide) (by decide))
  rw [show alphaI 48 = false by rfl] at A1
  have hb := hide (Below.refl w.heap.size w)
  go_enter Try.func7, Try.ntmps7
  go_wp2_with fail
  refine (P0.out _).mono ?_
  rintro e w1 ⟨rfl, h1⟩
  replace hb := hide (bel_next hb.out h1)
  clear h1
  go_wp2_with fail
  refine (P1.out _).mono ?_
  rintro e w1 ⟨rfl, h1⟩
  replace hb := hide (bel_next hb.out h1)
  clear h1
  go_wp2_with fail
  refine (P2.out _).mono ?_
  rintro e w1 ⟨rfl, h1⟩
  replace hb := hide (bel_next hb.out h1)
  clear h1
  go_wp2_with fail
  refine (P3.out _).mono ?_
  rintro e w1 ⟨rfl, h1⟩
  replace hb := hide (bel_next hb.out h1)
  clear h1
  go_wp2_with fail
  refine (P4.out _).mono ?_
  rintro e w1 ⟨rfl, h1⟩
  replace hb := hide (bel_next hb.out h1)
  clear h1
  go_wp2_with fail
  refine (F0.out _).mono ?_
  rintro e w1 ⟨rfl, h1⟩
  replace hb := hide (bel_next hb.out h1)
  clear h1
  go_wp2_with fail
  refine (F1.out _).mono ?_
  rintro e w1 ⟨rfl, h1⟩
  replace hb := hide (bel_next hb.out h1)
  clear h1
  go_wp2_with fail
  refine (V0.out _).mono ?_
  rintro e w1 ⟨rfl, h1⟩
  replace hb := hide (bel_next hb.out h1)
  clear h1
  go_wp2_with fail
  refine (V1.out _).mono ?_
  rintro e w1 ⟨rfl, h1⟩
  replace hb := hide (bel_next hb.out h1)
  clear h1
  go_wp2_with fail
  refine (A0.out _).mono ?_
  rintro e w1 ⟨rfl, h1⟩
  replace hb := hide (bel_next hb.out h1)
  clear h1
  go_wp2_with fail
  refine (A1.out _).mono ?_
  rintro e w1 ⟨rfl, h1⟩
  replace hb := hide (bel_next hb.out h1)
  clear h1
  go_wp2
  go_ret
  exact ⟨rfl, hb.out⟩
end l7_
end Go.Proofs.Ytbalpekoandakaa
