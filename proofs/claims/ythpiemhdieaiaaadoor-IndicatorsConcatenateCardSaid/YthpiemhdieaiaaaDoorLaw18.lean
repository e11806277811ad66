/-
  THE WALKS OF THE LAWS OF LAYER 18 (zoneinfolaw18): awake. No conditions.
-/
import Derived.Test.YthpiemhdieaiaaaDoorRef18
import Derived.Test.YthpiemhdieaiaaaDoorIn
import Derived.Deep.RegionHeld3
import Derived.Deep.DeepCutAuto
namespace Go.Proofs.YthpiemhdieaiaaaDoor
open Go.ChangeShapes Go.WideShapes Go.ChangeAt Go.RowKit
set_option linter.unusedVariables false
set_option maxRecDepth 100000
/-- a composite literal behind its alloc reads so. -/
theorem rdl_ (W : World) (l : List Value) (T : TypeId) (hm : l.length ≤ maxLen) : Rd (W.alloc (.cells l.toArray T)) (some ⟨W.heap.size, 0, none⟩) l.length l := (Ow.lit W T l hm).rd
theorem rdl2_ (W : World) (o : Obj) (l : List Value) (T : TypeId) (hm : l.length ≤ maxLen) : Rd ((W.alloc o).alloc (.cells l.toArray T)) (some ⟨W.heap.size + 1, 0, none⟩) l.length l := by
  have := rdl_ (W.alloc o) l T hm
  simpa using this
namespace l18_
set_option maxHeartbeats 4000000 in
theorem awake (w : World) (hT : Ti w) : Calls Tryd.prog 7 #[] w fun e w' => e = .returned (.bool true) ∧ Below w.heap.size w w' := by
  have HT := hide hT
  have hb := hide (Below.refl w.heap.size w)
  have D1 := hide (fun A c w hT hA hc hcm hr => in_.Decode A 2 c [1, 0] w hT (by decide) hA hc hcm hr (by decide))
  have D2 := hide (fun A c w hT hA hc hcm hr => in_.Decode A 2 c [0, 2] w hT (by decide) hA hc hcm hr (by decide))
  have S1 := hide (fun A A' c c' w hr hr' => r18_.Same A A' 2 2 c c' [true, false] [true, false] w (by decide) (by decide) hr hr')
  rw [decide_eq_true (rfl : [true, false] = [true, false])] at S1
  have E1 := hide (fun A c w hT hA hc hcm hr => in_.Encode A 2 c [false, true] w hT (by decide) hA hc hcm hr)
  rw [show eI [false, true] = [0, 1] from rfl] at E1
  have S2 := hide (fun A A' c c' w hr hr' => r1_.Same A A' 2 c 2 c' [0, 1] w (by decide) hr hr')
  have K1 := hide (fun A c A' c' w hT hA hc hcm hr hB hd hdm hs => in_.Consistent A A' 2 2 c c' [true, false] [true, false] w hT (by decide) (by decide) hA hB hc hd hcm hdm hr hs)
  rw [show cn [true, false] [true, false] = true by decide] at K1
  have K2 := hide (fun A c A' c' w hT hA hc hcm hr hB hd hdm hs => in_.Consistent A A' 2 2 c c' [true, false] [false, true] w hT (by decide) (by decide) hA hB hc hd hcm hdm hr hs)
  rw [show cn [true, false] [false, true] = false by decide] at K2
  have K3 := hide (fun A' c' w hT  hB hd hdm hs => in_.Consistent none A' 0 1 0 c' [] [true] w hT (by decide) (by decide) (fun _ => ⟨rfl, rfl⟩) hB (by decide) hd (by decide) hdm (Rd.none_ w) hs)
  rw [show cn [] [true] = false by decide] at K3
  have K4 := hide (fun A c w hT hA hc hcm hr  => in_.Consistent A none 1 0 c 0 [true] [] w hT (by decide) (by decide) hA (fun _ => ⟨rfl, rfl⟩) hc (by decide) hcm (by decide) hr (Rd.none_ w))
  rw [show cn [true] [] = true by decide] at K4
  go_enter Tryd.func7, Tryd.ntmps7
  have rl := Rd.ints w 5 .u8 ([1, 0] : List Int) 2 rfl rfl
  replace hb := hide (bl_alloc hb.out (.cells #[.int .u8 1, .int .u8 0] 5))
  go_wp2_with fail
  refine (D1.out _ _ _ (HT.out.below hb.out) (fun h => by cases h) (by decide) (by decide) rl).mono ?_
  rintro e w1 ⟨⟨-, A1, c1, rfl, o1⟩ | ⟨h, -⟩, h1⟩
  rotate_left
  · exact absurd h (by decide)
  replace hb := hide (bel_next hb.out h1)
  clear h1
  clear rl
  rw [show dI [1, 0] = [true, false] by decide] at o1
  replace o1 := hide o1
  have rl := Rd.ints w1 5 .u8 ([0, 2] : List Int) 2 rfl rfl
  replace hb := hide (bl_alloc hb.out (.cells #[.int .u8 0, .int .u8 2] 5))
  replace o1 := hide (o1.out.alloc (.cells #[.int .u8 0, .int .u8 2] 5))
  go_wp2_with fail
  refine (D2.out _ _ _ (HT.out.below hb.out) (fun h => by cases h) (by decide) (by decide) rl).mono ?_
  rintro e w2 ⟨⟨h, -⟩ | ⟨-, rfl⟩, h1⟩
  · exact absurd h (by decide)
  replace hb := hide (bel_next hb.out h1)
  replace o1 := hide (o1.out.below h1)
  clear h1
  clear rl
  have rl : Rd (w2.alloc (.cells #[.bool true, .bool false] 4)) (some ⟨w2.heap.size, 0, none⟩) 2 (bls [true, false]) := rdl_ w2 [.bool true, .bool false] 4 (by decide)
  replace hb := hide (bl_alloc hb.out (.cells #[.bool true, .bool false] 4))
  replace o1 := hide (o1.out.alloc (.cells #[.bool true, .bool false] 4))
  go_wp2_with fail
  refine (S1.out _ _ _ _ _ o1.out.rd rl).mono ?_
  rintro e w3 ⟨rfl, h1⟩
  replace hb := hide (bel_next hb.out h1)
  replace o1 := hide (o1.out.below h1)
  clear h1
  clear rl
  clear o1
  have rl : Rd (w3.alloc (.cells #[.bool false, .bool true] 4)) (some ⟨w3.heap.size, 0, none⟩) 2 (bls [false, true]) := rdl_ w3 [.bool false, .bool true] 4 (by decide)
  replace hb := hide (bl_alloc hb.out (.cells #[.bool false, .bool true] 4))
  go_wp2_with fail
  refine (E1.out _ _ _ (HT.out.below hb.out) (fun h => by cases h) (by decide) (by decide) rl).mono ?_
  rintro e w4 ⟨A4, c4, rfl, o4, h1⟩
  replace hb := hide (bel_next hb.out h1)
  clear h1
  clear rl
  replace o4 := hide o4
  have rl := Rd.ints w4 5 .u8 ([0, 1] : List Int) 2 rfl rfl
  replace hb := hide (bl_alloc hb.out (.cells #[.int .u8 0, .int .u8 1] 5))
  replace o4 := hide (o4.out.alloc (.cells #[.int .u8 0, .int .u8 1] 5))
  go_wp2_with fail
  refine (S2.out _ _ _ _ _ o4.out.rd rl).mono ?_
  rintro e w5 ⟨rfl, h1⟩
  replace hb := hide (bel_next hb.out h1)
  replace o4 := hide (o4.out.below h1)
  clear h1
  clear rl
  clear o4
  have ra : Rd ((w5.alloc (.cells #[.bool true, .bool false] 4)).alloc (.cells #[.bool true, .bool false] 4)) (some ⟨w5.heap.size, 0, none⟩) 2 (bls [true, false]) := (rdl_ w5 [.bool true, .bool false] 4 (by decide)).alloc _
  have rb : Rd ((w5.alloc (.cells #[.bool true, .bool false] 4)).alloc (.cells #[.bool true, .bool false] 4)) (some ⟨w5.heap.size + 1, 0, none⟩) 2 (bls [true, false]) := rdl2_ w5 (.cells #[.bool true, .bool false] 4) [.bool true, .bool false] 4 (by decide)
  replace hb := hide (bl_alloc (bl_alloc hb.out (.cells #[.bool true, .bool false] 4)) (.cells #[.bool true, .bool false] 4))
  go_wp2_with fail
  refine (K1.out _ _ _ _ _ (HT.out.below hb.out) (fun h => by cases h) (by decide) (by decide) ra (fun h => by cases h) (by decide) (by decide) rb).mono ?_
  rintro e w6 ⟨rfl, h1⟩
  replace hb := hide (bel_next hb.out h1)
  clear h1
  clear ra rb
  have ra : Rd ((w6.alloc (.cells #[.bool true, .bool false] 4)).alloc (.cells #[.bool false, .bool true] 4)) (some ⟨w6.heap.size, 0, none⟩) 2 (bls [true, false]) := (rdl_ w6 [.bool true, .bool false] 4 (by decide)).alloc _
  have rb : Rd ((w6.alloc (.cells #[.bool true, .bool false] 4)).alloc (.cells #[.bool false, .bool true] 4)) (some ⟨w6.heap.size + 1, 0, none⟩) 2 (bls [false, true]) := rdl2_ w6 (.cells #[.bool true, .bool false] 4) [.bool false, .bool true] 4 (by decide)
  replace hb := hide (bl_alloc (bl_alloc hb.out (.cells #[.bool true, .bool false] 4)) (.cells #[.bool false, .bool true] 4))
  go_wp2_with fail
  refine (K2.out _ _ _ _ _ (HT.out.below hb.out) (fun h => by cases h) (by decide) (by decide) ra (fun h => by cases h) (by decide) (by decide) rb).mono ?_
  rintro e w7 ⟨rfl, h1⟩
  replace hb := hide (bel_next hb.out h1)
  clear h1
  clear ra rb
  have rb : Rd (w7.alloc (.cells #[.bool true] 4)) (some ⟨w7.heap.size, 0, none⟩) 1 (bls [true]) := rdl_ w7 [.bool true] 4 (by decide)
  replace hb := hide (bl_alloc hb.out (.cells #[.bool true] 4))
  go_wp2_with fail
  refine (K3.out _ _ _ (HT.out.below hb.out) (fun h => by cases h) (by decide) (by decide) rb).mono ?_
  rintro e w8 ⟨rfl, h1⟩
  replace hb := hide (bel_next hb.out h1)
  clear h1
  clear rb
  have ra : Rd (w8.alloc (.cells #[.bool true] 4)) (some ⟨w8.heap.size, 0, none⟩) 1 (bls [true]) := rdl_ w8 [.bool true] 4 (by decide)
  replace hb := hide (bl_alloc hb.out (.cells #[.bool true] 4))
  go_wp2_with fail
  refine (K4.out _ _ _ (HT.out.below hb.out) (fun h => by cases h) (by decide) (by decide) ra).mono ?_
  rintro e w9 ⟨rfl, h1⟩
  replace hb := hide (bel_next hb.out h1)
  clear h1
  clear ra
  go_wp2
  go_ret
  exact ⟨rfl, hb.out⟩
end l18_
end Go.Proofs.YthpiemhdieaiaaaDoor
